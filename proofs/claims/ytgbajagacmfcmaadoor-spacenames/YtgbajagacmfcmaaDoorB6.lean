/- Texts that belong together, one behind the other: CidrOrder, TabCmp, TabSearch, CidrMasksMath, TabMath, TabDel, TabIns, TabGrow, TabPlace, CidrSet, AddrBitsOwn, AddrBit. -/
import Derived.Test.YtgbajagacmfcmaaDoorB5
import Derived.Shelf.Abstract
/- Plain facts on the row of prefixes, and on what lies between their first and last addresses. -/
namespace Go.Proofs.YtgbajagacmfcmaaDoor
open Go.RowKit
set_option linter.unusedVariables false
set_option maxRecDepth 20000

theorem cmpL_point : ∀ xs ys : List Nat, xs.length = ys.length → (∀ q, q < xs.length → xs.getD q 0 ≤ ys.getD q 0) → cmpL xs ys ≤ 0
  | [], ys, _, _ => by cases ys <;> simp [cmpL]
  | _ :: _, [], h, _ => by cases h
  | x :: xs, y :: ys, h, hq => by
    have h0 : x ≤ y := hq 0 (by simp)
    have ih := cmpL_point xs ys (by simpa using h) (fun q hql => hq (q + 1) (by simpa using hql))
    rw [cmpL]
    by_cases h1 : x < y
    · rw [if_pos h1]; decide
    · rw [if_neg h1, if_neg (by omega)]; exact ih
theorem byte_le (x y : Nat) (hx : x < 256) (hy : y < 256) (h : ∀ r, r < 8 → x / 2 ^ (7 - r) % 2 ≤ y / 2 ^ (7 - r) % 2) : x ≤ y := by
  have h0 : x / 128 % 2 ≤ y / 128 % 2 := h 0 (by decide)
  have h1 : x / 64 % 2 ≤ y / 64 % 2 := h 1 (by decide)
  have h2 : x / 32 % 2 ≤ y / 32 % 2 := h 2 (by decide)
  have h3 : x / 16 % 2 ≤ y / 16 % 2 := h 3 (by decide)
  have h4 : x / 8 % 2 ≤ y / 8 % 2 := h 4 (by decide)
  have h5 : x / 4 % 2 ≤ y / 4 % 2 := h 5 (by decide)
  have h6 : x / 2 % 2 ≤ y / 2 % 2 := h 6 (by decide)
  have h7 : x / 1 % 2 ≤ y / 1 % 2 := h 7 (by decide)
  simp only [Nat.div_one] at h7
  have ex := byte_bits x hx
  have ey := byte_bits y hy
  generalize x / 128 % 2 = a0 at *
  generalize x / 64 % 2 = a1 at *
  generalize x / 32 % 2 = a2 at *
  generalize x / 16 % 2 = a3 at *
  generalize x / 8 % 2 = a4 at *
  generalize x / 4 % 2 = a5 at *
  generalize x / 2 % 2 = a6 at *
  generalize x % 2 = a7 at *
  generalize y / 128 % 2 = b0 at *
  generalize y / 64 % 2 = b1 at *
  generalize y / 32 % 2 = b2 at *
  generalize y / 16 % 2 = b3 at *
  generalize y / 8 % 2 = b4 at *
  generalize y / 4 % 2 = b5 at *
  generalize y / 2 % 2 = b6 at *
  generalize y % 2 = b7 at *
  omega
theorem bit_at (l : List Nat) (q r : Nat) (hr : r < 8) : bitA l (8 * q + r) = l.getD q 0 / 2 ^ (7 - r) % 2 := by
  unfold bitA
  rw [show (8 * q + r) / 8 = q by omega, show (8 * q + r) % 8 = r by omega]
theorem cmpL_bits {xs ys : List Nat} (hx : xs.length = 16) (hy : ys.length = 16) (lx : ∀ x ∈ xs, x < 256) (ly : ∀ x ∈ ys, x < 256) (h : ∀ i, i < 128 → bitA xs i ≤ bitA ys i) : cmpL xs ys ≤ 0 := by
  refine cmpL_point xs ys (by rw [hx, hy]) (fun q hq => byte_le _ _ (getD_lt lx q) (getD_lt ly q) (fun r hr => ?_))
  have := h (8 * q + r) (by omega)
  rw [bit_at _ _ _ hr, bit_at _ _ _ hr] at this
  exact this
/-- What stands between two rows that begin alike begins so too. -/
theorem squeeze : ∀ (k : Nat) (xs ys zs : List Nat), xs.length = ys.length → ys.length = zs.length → (∀ q, q < k → xs.getD q 0 = zs.getD q 0) → cmpL xs ys ≤ 0 → cmpL ys zs ≤ 0 → k ≤ xs.length →
    (∀ q, q < k → xs.getD q 0 = ys.getD q 0) ∧ (k < xs.length → xs.getD k 0 ≤ ys.getD k 0 ∧ ys.getD k 0 ≤ zs.getD k 0)
  | 0, [], _, _, _, _, _, _, _, _ => ⟨fun q h => absurd h (by omega), fun h => absurd h (by simp)⟩
  | 0, x :: xs, [], _, h, _, _, _, _, _ => by cases h
  | 0, x :: xs, y :: ys, [], _, h, _, _, _, _ => by cases h
  | 0, x :: xs, y :: ys, z :: zs, _, _, _, a, b, _ => by
    refine ⟨fun q h => absurd h (by omega), fun _ => ?_⟩
    rw [cmpL] at a b
    refine ⟨?_, ?_⟩
    · show x ≤ y
      apply Classical.byContradiction
      intro h
      rw [if_neg (by omega), if_pos (by omega)] at a
      omega
    · show y ≤ z
      apply Classical.byContradiction
      intro h
      rw [if_neg (by omega), if_pos (by omega)] at b
      omega
  | k + 1, [], _, _, _, _, _, _, _, h => absurd h (by simp)
  | k + 1, x :: xs, [], _, h, _, _, _, _, _ => by cases h
  | k + 1, x :: xs, y :: ys, [], _, h, _, _, _, _ => by cases h
  | k + 1, x :: xs, y :: ys, z :: zs, h1, h2, hq, a, b, hk => by
    have hxz : x = z := hq 0 (by omega)
    subst hxz
    rw [cmpL] at a b
    have hxy : x = y := by
      apply Classical.byContradiction
      intro h
      by_cases h3 : x < y
      · rw [if_neg (by omega), if_pos h3] at b; omega
      · rw [if_neg h3, if_pos (by omega)] at a; omega
    subst hxy
    rw [if_neg (by omega), if_neg (by omega)] at a b
    obtain ⟨i1, i2⟩ := squeeze k xs ys zs (by simpa using h1) (by simpa using h2) (fun q hql => hq (q + 1) (by omega)) a b (by simpa using hk)
    refine ⟨fun q hql => ?_, fun hkl => i2 (by simpa using hkl)⟩
    cases q with
    | zero => rfl
    | succ q => exact i1 q (by omega)
theorem top_bits (x z : Nat) (hx : x < 256) (hz : z < 256) : ∀ r, r ≤ 8 → (∀ j, j < r → z / 2 ^ (7 - j) % 2 = x / 2 ^ (7 - j) % 2) → x / 2 ^ (8 - r) = z / 2 ^ (8 - r)
  | 0, _, _ => by
    show x / 256 = z / 256
    omega
  | r + 1, hr, h => by
    rw [half_step x r (by omega), half_step z r (by omega), top_bits x z hx hz r (by omega) (fun j hj => h j (by omega)), h r (by omega)]
theorem byte_squeeze (x y z r : Nat) (hr : r < 8) (hx : x < 256) (hz : z < 256) (h1 : ∀ j, j < r → z / 2 ^ (7 - j) % 2 = x / 2 ^ (7 - j) % 2) (ha : x ≤ y) (hb : y ≤ z) :
    ∀ j, j < r → y / 2 ^ (7 - j) % 2 = x / 2 ^ (7 - j) % 2 := by
  have key : x / 2 ^ (8 - r) = y / 2 ^ (8 - r) := by
    have k1 := top_bits x z hx hz r (by omega) h1
    have k2 : x / 2 ^ (8 - r) ≤ y / 2 ^ (8 - r) := Nat.div_le_div_right ha
    have k3 : y / 2 ^ (8 - r) ≤ z / 2 ^ (8 - r) := Nat.div_le_div_right hb
    omega
  intro j hj
  have e : 2 ^ (7 - j) = 2 ^ (8 - r) * 2 ^ (r - 1 - j) := by rw [← Nat.pow_add]; congr 1; omega
  rw [e, ← Nat.div_div_eq_div_mul, ← Nat.div_div_eq_div_mul, key]
section
variable {f g k : Int} {ps qs rs us : List Nat} {n m l : Nat}
theorem GoodP.between (h : GoodP f ps n) (hu : GoodA f us) : (cmpL ps us ≤ 0 ∧ cmpL us (withL (bitsN f) ps n 1) ≤ 0) ↔ Begins ps us n := by
  have hN := bitsN_le f
  have hle := h.le
  constructor
  · rintro ⟨a, b⟩
    have hlz := withL_len (bitsN f) ps n 1
    have hzz := withL_lt (bitsN f) ps n 1 (by decide)
    have hbz : ∀ i, i < n → bitA (withL (bitsN f) ps n 1) i = bitA ps i := fun i hi => (begins_with h.le 1 (by decide) i hi).symm
    obtain ⟨s1, s2⟩ := squeeze (n / 8) ps us (withL (bitsN f) ps n 1) (by rw [h.len, hu.len]) (by rw [hu.len, hlz]) (fun q hq => byte_ext _ _ (getD_lt h.lt q) (getD_lt hzz q) (fun r hr => by
      rw [← bit_at _ _ _ hr, ← bit_at _ _ _ hr]; exact (hbz _ (by omega)).symm)) a b (by rw [h.len]; omega)
    intro i hi
    by_cases hq : i / 8 < n / 8
    · unfold bitA
      rw [s1 _ hq]
    · have e : i = 8 * (n / 8) + i % 8 := by omega
      obtain ⟨t1, t2⟩ := s2 (by rw [h.len]; omega)
      have := byte_squeeze _ _ _ (n % 8) (by omega) (getD_lt h.lt _) (getD_lt hzz _) (fun j hj => by
        rw [← bit_at _ _ _ (by omega), ← bit_at _ _ _ (by omega)]; exact hbz _ (by omega)) t1 t2 (i % 8) (by omega)
      rw [e, bit_at _ _ _ (by omega), bit_at _ _ _ (by omega), this]
  · intro hb
    refine ⟨cmpL_bits h.len hu.len h.lt hu.lt (fun i hi => ?_), cmpL_bits hu.len (withL_len _ _ _ _) hu.lt (withL_lt _ _ _ _ (by decide)) (fun i hi => ?_)⟩
    · by_cases h1 : i < n
      · rw [hb i h1]; exact Nat.le_refl _
      · rw [h.zero i hi (by omega)]; exact Nat.zero_le _
    · rw [bitA_with _ _ _ _ _ (by decide) hi]
      unfold withF
      by_cases h1 : i < bitsN f
      · rw [if_pos h1]
        by_cases h2 : n ≤ i
        · rw [if_pos h2]; exact bitA_le us i
        · rw [if_neg h2, hb i (by omega)]; exact Nat.le_refl _
      · rw [if_neg h1, hu.zero i hi (by omega)]; exact Nat.le_refl _
theorem sgn3_neg (x y : Int) : sgn3 y x = - sgn3 x y := by
  unfold sgn3
  by_cases h1 : x < y
  · rw [if_pos h1, if_neg (by omega), if_pos h1]; rfl
  · by_cases h2 : y < x
    · rw [if_pos h2, if_neg h1, if_pos h2]
    · rw [if_neg h1, if_neg h2, if_neg h2, if_neg h1]; rfl
theorem sgn3_zero (x y : Int) : sgn3 x y = 0 ↔ x = y := by
  unfold sgn3
  split
  · constructor <;> intro h <;> omega
  · split
    · constructor <;> intro h <;> omega
    · constructor <;> intro h <;> omega
theorem sgn3_range (x y : Int) : (sgn3 x y = -1 ∧ x < y) ∨ (sgn3 x y = 0 ∧ x = y) ∨ (sgn3 x y = 1 ∧ y < x) := by
  unfold sgn3
  split
  · exact .inl ⟨rfl, by omega⟩
  · split
    · exact .inr (.inr ⟨rfl, by omega⟩)
    · exact .inr (.inl ⟨rfl, by omega⟩)
theorem cmpP_range (f : Int) (ps : List Nat) (n : Int) (g : Int) (qs : List Nat) (m : Int) : cmpP f ps n g qs m = -1 ∨ cmpP f ps n g qs m = 0 ∨ cmpP f ps n g qs m = 1 := by
  unfold cmpP
  have h1 := cmpA_range f ps g qs
  have h2 := sgn3_range n m
  split <;> omega
theorem cmpP_neg (f : Int) (ps : List Nat) (n : Int) (g : Int) (qs : List Nat) (m : Int) : cmpP g qs m f ps n = - cmpP f ps n g qs m := by
  unfold cmpP
  rw [cmpA_neg f ps g qs]
  by_cases h : cmpA f ps g qs = 0
  · rw [if_pos (by omega), if_pos h]; exact sgn3_neg n m
  · rw [if_neg (by omega), if_neg h]
theorem cmpP_zero (f : Int) (ps : List Nat) (n : Int) (g : Int) (qs : List Nat) (m : Int) (hp : ps.length = 16) (hq : qs.length = 16) : cmpP f ps n g qs m = 0 ↔ (f = g ∧ ps = qs ∧ n = m) := by
  unfold cmpP
  have h1 := cmpA_zero f ps g qs hp hq
  by_cases h : cmpA f ps g qs = 0
  · rw [if_pos h, sgn3_zero]
    have := h1.1 h
    exact ⟨fun e => ⟨this.1, this.2, e⟩, fun e => e.2.2⟩
  · rw [if_neg h]
    exact ⟨fun e => absurd e h, fun e => absurd (h1.2 ⟨e.1, e.2.1⟩) h⟩
theorem cmpP_trans (f : Int) (ps : List Nat) (n : Int) (g : Int) (qs : List Nat) (m : Int) (k : Int) (rs : List Nat) (l : Int) (hp : ps.length = 16) (hq : qs.length = 16) (hr : rs.length = 16) (a : cmpP f ps n g qs m ≤ 0) (b : cmpP g qs m k rs l ≤ 0) : cmpP f ps n k rs l ≤ 0 := by
  unfold cmpP at *
  have t := cmpA_trans f ps g qs k rs hp hq hr
  have t2 := cmpA_trans k rs f ps g qs hr hp hq
  have t3 := cmpA_trans g qs k rs f ps hq hr hp
  rw [cmpA_neg f ps k rs] at t2 t3
  rw [cmpA_neg g qs k rs] at t2
  rw [cmpA_neg f ps g qs] at t3
  have s1 := sgn3_range n m
  have s2 := sgn3_range m l
  have s3 := sgn3_range n l
  split at a <;> split at b <;> split <;> omega
theorem within_row (hp : GoodP f ps n) (hq : GoodP g qs m) (h : withinR f ps (n : Int) g qs (m : Int) = true) : 0 ≤ cmpP f ps (n : Int) g qs (m : Int) := by
  obtain ⟨a, rfl, b⟩ := (withinR_iff hp hq).1 h
  have hl : cmpL qs ps ≤ 0 := cmpL_bits hq.len hp.len hq.lt hp.lt (fun i hi => by
    by_cases h1 : i < m
    · rw [b i h1]; exact Nat.le_refl _
    · rw [hq.zero i hi (by omega)]; exact Nat.zero_le _)
  have ha : 0 ≤ cmpA g ps g qs := by
    unfold cmpA
    rw [if_pos rfl]
    have := cmpL_neg qs ps
    omega
  unfold cmpP
  split
  · have := sgn3_range (n : Int) (m : Int)
    omega
  · exact ha
end
end Go.Proofs.YtgbajagacmfcmaaDoor
/- Contracts of table.compare and of Table.hold. -/
namespace Go.Proofs.YtgbajagacmfcmaaDoor
open Go.RowKit
set_option linter.unusedVariables false
set_option maxRecDepth 20000

/-- How an entry stands to a prefix. -/
def cmpE (e : Ent) (f : Int) (bs : List Nat) (n : Int) : Int := cmpP e.f e.b (e.n : Int) f bs n
theorem Ent.L_ent (e : Ent) : Value.agg e.L.toArray = entV e.f e.b (e.n : Int) e.v := rfl
theorem ent_boxed (f : Int) (bs : List Nat) (n v : Int) (w : World) (h16 : bs.length = 16) :
    ∃ cs : Array Value, entV f bs n v = .agg cs ∧ Hid (EntAt (w.alloc (.cells cs 36)) w.heap.size f bs n v) ∧ Hid (Below w.heap.size w (w.alloc (.cells cs 36))) :=
  ⟨_, rfl, Lib.hid (EntAt.of w _ _ f bs n v h16 rfl), Lib.hid ((Below.refl _ _).alloc (Nat.le_refl _) _)⟩
theorem EntAt.pref {w : World} {G : Nat} {f : Int} {bs : List Nat} {n v : Int} (h : EntAt w G f bs n v) : w.rangeAt G 0 (prefL f bs n) := fun j u hu => h.range j u (by
  have hj : j < (prefL f bs n).length := by
    apply Classical.byContradiction
    intro h2
    rw [List.getElem?_eq_none (by omega)] at hu
    cases hu
  unfold entL
  rw [List.getElem?_append_left hj]
  exact hu)
/-- An entry and a prefix that come in, boxed. -/
theorem ent_pref_boxed (f : Int) (ps : List Nat) (n v : Int) (g : Int) (qs : List Nat) (m : Int) (w : World) (hp : ps.length = 16) (hq : qs.length = 16) :
    ∃ cs ds : Array Value, entV f ps n v = .agg cs ∧ prefV g qs m = .agg ds ∧ Hid (EntAt ((w.alloc (.cells cs 36)).alloc (.cells ds 27)) w.heap.size f ps n v) ∧ Hid (PrefAt ((w.alloc (.cells cs 36)).alloc (.cells ds 27)) (w.heap.size + 1) g qs m) ∧
      Hid (Below w.heap.size w ((w.alloc (.cells cs 36)).alloc (.cells ds 27))) := by
  obtain ⟨cs, ecs, HA, HB⟩ := ent_boxed f ps n v w hp
  obtain ⟨ds, eds, HA', HB'⟩ := pref_boxed g qs m (w.alloc (.cells cs 36)) hq
  rw [heap_alloc] at HA'
  exact ⟨cs, ds, ecs, eds, Lib.hid (HA.out.alloc _), HA', Lib.hid (chain HB.out HB'.out)⟩
set_option maxRecDepth 100000 in
set_option maxHeartbeats 1000000 in
theorem tabCompare_any (f : Int) (ps : List Nat) (n v : Int) (g : Int) (qs : List Nat) (m : Int) (w : World) (hp : ps.length = 16) (hq : qs.length = 16) (lp : ∀ x ∈ ps, x < 256) (lq : ∀ x ∈ qs, x < 256) :
    Calls Tryd.prog 68 #[entV f ps n v, prefV g qs m] w fun e w' => e = .returned (.int .i64 (cmpP f ps n g qs m)) ∧ Below w.heap.size w w' := by
  have HC := fun W => Lib.hid (cidrCompare_any f ps n g qs m W hp hq lp lq)
  have H16 := Lib.hid hp
  generalize cmpP f ps n g qs m = R at *
  obtain ⟨cs, ds, ecs, eds, H1, H2, HB⟩ := ent_pref_boxed f ps n v g qs m w hp hq
  rw [ecs, eds]
  clear ecs eds hp hq lp lq
  go_enter Tryd.func68, Tryd.ntmps68
  go_upto_region 1 with fail
  generalize ((w.alloc (.cells cs 36)).alloc (.cells ds 27)) = W at *
  have H1p := Lib.hid H1.out.pref
  go_wp2_with (first | refine load_pref_o H16 H1p _ rfl rfl rfl ?_ | refine load_pref_g H2 _ rfl rfl rfl ?_)
  refine (HC _).out.mono ?_
  rintro e w1 ⟨rfl, hb1⟩
  have HB1 := Lib.hid (chain HB.out hb1)
  clear H1 H2 HB hb1 H1p
  go_wp2_with fail
  go_ret
  exact ⟨rfl, HB1.out⟩
/-- A table's own two cells. -/
structure Tab (w : World) (G : Nat) (v : Value) (st : Int) : Prop where
  lt : G < w.heap.size
  row : w.cell? ⟨G, 0, none⟩ = some v
  steps : w.cell? ⟨G, 1, none⟩ = some (.int .i64 st)
  frow : w.frozen? ⟨G, 0, none⟩ = false
  fsteps : w.frozen? ⟨G, 1, none⟩ = false
section
variable {w w' : World} {G : Nat} {v : Value} {st : Int}
theorem Tab.same (h : Tab w G v st) (hs : w.heap.size ≤ w'.heap.size) (hk : w'.heap[G]? = w.heap[G]?) : Tab w' G v st :=
  ⟨Nat.lt_of_lt_of_le h.lt hs, (World.cell?_of_block (w := w) (a := ⟨G, 0, none⟩) hk).trans h.row, (World.cell?_of_block (w := w) (a := ⟨G, 1, none⟩) hk).trans h.steps,
    (World.frozen?_of_block (w := w) (a := ⟨G, 0, none⟩) hk).trans h.frow, (World.frozen?_of_block (w := w) (a := ⟨G, 1, none⟩) hk).trans h.fsteps⟩
theorem Tab.below (h : Tab w G v st) (hb : Below w.heap.size w w') : Tab w' G v st := h.same hb.size (hb.block G h.lt)
theorem Tab.foot {F F' : List Nat} (h : Tab w G v st) (hf : Foot F F' w w') (hn : G ∉ F) : Tab w' G v st := h.same hf.size (hf.keep G h.lt hn)
theorem size_set (w : World) (p : Addr) (u : Value) : (w.setCell p u).heap.size = w.heap.size := by show (w.heap.modify _ _).size = _; rw [Array.size_modify]
theorem Tab.setRow (h : Tab w G v st) (u : Value) : Tab (w.setCell ⟨G, 0, none⟩ u) G u st :=
  ⟨by rw [size_set]; exact h.lt, World.cell?_setCell_same' _ _ _ (by rw [h.row]; rfl), by rw [World.cell?_setCell_other _ _ _ _ (by simp)]; exact h.steps, by rw [World.frozen?_setCell]; exact h.frow, by rw [World.frozen?_setCell]; exact h.fsteps⟩
theorem Tab.setSteps (h : Tab w G v st) (x : Int) : Tab (w.setCell ⟨G, 1, none⟩ (.int .i64 x)) G v x :=
  ⟨by rw [size_set]; exact h.lt, by rw [World.cell?_setCell_other _ _ _ _ (by simp)]; exact h.row, World.cell?_setCell_same' _ _ _ (by rw [h.steps]; rfl), by rw [World.frozen?_setCell]; exact h.frow, by rw [World.frozen?_setCell]; exact h.fsteps⟩
theorem foot_cell (w : World) (b o : Nat) (u : Value) : Foot [b] [b] w (w.setCell ⟨b, o, none⟩ u) := foot_cells b o [u]
theorem Foot.below' {F F' : List Nat} (h : Foot F F' w w') (hF : ∀ k ∈ F, k < w.heap.size) (x : World) (hb : Below w'.heap.size w' x) : Foot F F' w x :=
  h.trans (Foot.ofBelow F' hb)
end
set_option maxRecDepth 100000 in
set_option maxHeartbeats 1000000 in
theorem tabHold_any (G : Nat) (r : Value) (st : Int) (f : Int) (ps : List Nat) (n v : Int) (g : Int) (qs : List Nat) (m : Int) (w : World) (hT : Tab w G r st) (h0 : 0 ≤ st) (h1 : st ≤ 1000000) (hp : ps.length = 16) (hq : qs.length = 16) (lp : ∀ x ∈ ps, x < 256) (lq : ∀ x ∈ qs, x < 256) :
    Calls Tryd.prog 66 #[.pointer (some ⟨G, 0, none⟩), entV f ps n v, prefV g qs m] w fun e w' => e = .returned (.int .i64 (cmpP f ps n g qs m)) ∧ Tab w' G r (st + 1) ∧ Foot [G] [G] w w' := by
  have HC := fun W => Lib.hid (tabCompare_any f ps n v g qs m W hp hq lp lq)
  have H16 := Lib.hid hp
  generalize cmpP f ps n g qs m = R at *
  obtain ⟨cs, ds, ecs, eds, H1, H2, HB⟩ := ent_pref_boxed f ps n v g qs m w hp hq
  rw [ecs, eds]
  have HT := Lib.hid (hT.below HB.out)
  have hGL := hT.lt
  have HGL := Lib.hid hT.lt
  clear ecs eds hp hq lp lq hT
  go_enter Tryd.func66, Tryd.ntmps66
  go_upto_region 1 with fail
  generalize ((w.alloc (.cells cs 36)).alloc (.cells ds 27)) = W at *
  have hs := HT.out.steps
  have hf := HT.out.fsteps
  have hw1 : IntKind.i64.wrap (st + 1) = st + 1 := by rw [IntKind.wrap_i64]; omega
  go_upto_region 2 with fail
  have HT2 := Lib.hid (HT.out.setSteps (st + 1))
  have HF2 := Lib.hid ((Foot.ofBelow [G] HB.out).trans (foot_cell W G 1 (.int .i64 (st + 1))))
  have H12 : Hid (EntAt (W.setCell ⟨G, 1, none⟩ (.int .i64 (st + 1))) w.heap.size f ps n v) := Lib.hid ⟨H1.out.len, by rw [size_set]; exact H1.out.lt, range_foot (foot_cell W G 1 _) H1.out.range H1.out.lt (by simp; omega), World.there_setCells H1.out.there G 1 [_]⟩
  have H22 : Hid (PrefAt (W.setCell ⟨G, 1, none⟩ (.int .i64 (st + 1))) (w.heap.size + 1) g qs m) := Lib.hid (H2.out.foot (foot_cell W G 1 _) (by simp; omega))
  clear hs hf H1 H2 HT HB
  generalize W.setCell ⟨G, 1, none⟩ (.int .i64 (st + 1)) = V at *
  have H1p := Lib.hid H12.out.range
  go_wp2_with (first | refine load_entT_o H16 H1p _ rfl rfl rfl ?_ | refine load_pref_g H22 _ rfl rfl rfl ?_)
  refine (HC _).out.mono ?_
  rintro e w1 ⟨rfl, hb1⟩
  have HT3 := Lib.hid (HT2.out.below hb1)
  have HF3 := Lib.hid (HF2.out.trans (Foot.ofBelow [G] hb1))
  clear H12 H22 hb1 H1p HT2 HF2
  go_wp2_with fail
  go_ret
  exact ⟨rfl, HT3.out, HF3.out⟩
end Go.Proofs.YtgbajagacmfcmaaDoor
/- Contract of slices.BinarySearchFunc over entries, by whatever comparison. -/
namespace Go.Proofs.YtgbajagacmfcmaaDoor
open Go.RowKit
set_option linter.unusedVariables false
set_option maxRecDepth 20000

/-- How many halvings lead to none. -/
def bl (n : Nat) : Nat := if h : n = 0 then 0 else bl (n / 2) + 1
termination_by n
theorem bl_zero : bl 0 = 0 := by unfold bl; rfl
theorem bl_pos {n : Nat} (h : 0 < n) : bl n = bl (n / 2) + 1 := by rw [bl, dif_neg (by omega)]
theorem bl_mono : ∀ n m : Nat, m ≤ n → bl m ≤ bl n := by
  intro n
  induction n using Nat.strongRecOn with
  | ind n ih =>
    intro m h
    by_cases h0 : m = 0
    · rw [h0, bl_zero]; omega
    · rw [bl_pos (n := m) (by omega), bl_pos (n := n) (by omega)]
      have := ih (n / 2) (by omega) (m / 2) (by omega)
      omega
theorem bl_half {n x : Nat} (h : 0 < n) (hx : x ≤ n / 2) : bl x + 1 ≤ bl n := by
  have := bl_mono (n / 2) x hx
  rw [bl_pos h]; omega
theorem bl_small {n : Nat} (h : n ≤ 1000) : bl n ≤ 10 := by
  have h2 := bl_mono 1000 n h
  have e : bl 1000 = 10 := by
    rw [bl_pos (by decide), bl_pos (by decide), bl_pos (by decide), bl_pos (by decide), bl_pos (by decide), bl_pos (by decide), bl_pos (by decide), bl_pos (by decide), bl_pos (by decide), bl_pos (by decide)]
    show bl 0 + 1 + 1 + 1 + 1 + 1 + 1 + 1 + 1 + 1 + 1 = 10
    rw [bl_zero]
  omega
/-- Ranges that lie there. -/
def HeldL (L : List (Nat × Nat × List Value)) (w : World) : Prop := ∀ x ∈ L, w.rangeAt x.1 x.2.1 x.2.2
theorem HeldL.drew {L : List (Nat × Nat × List Value)} {w : World} (h : HeldL L w) : HeldL L w.drew := h
theorem HeldL.get {L : List (Nat × Nat × List Value)} {w : World} {b o : Nat} {cs : List Value} (h : HeldL L w) (hm : (b, o, cs) ∈ L) : w.rangeAt b o cs := h _ hm
/-- A range within what is held. -/
def InL (L : List (Nat × Nat × List Value)) (G o : Nat) (cs : List Value) : Prop := ∀ w, HeldL L w → w.rangeAt G o cs
theorem yields_ent_l {ops : Array Oper} {op : Oper} {a : Act} {L : List (Nat × Nat × List Value)} {G o : Nat} {f : Int} {bs : List Nat} {n v : Int} (hl : Hid (bs.length = 16)) (hm : Hid (InL L G o (entL f bs n v))) (hw : Region.wanted op (yielded ops a.tmps) = true) (x : Operand) (ho : op.op = .load 36 x)
    (hx : a.eval x = .pointer (some ⟨G, o, none⟩)) : YieldsIf Tryd.prog ops (HeldL L) op (entV f bs n v) a :=
  yieldsIf_load_mid hw 36 x ho G o hx (entL f bs n v) _ (fun w h => hm.out w h) Tryd.underlying36 rfl (by rw [entT_size, entL_len f bs n v hl.out])
theorem yields_pref_l {ops : Array Oper} {op : Oper} {a : Act} {L : List (Nat × Nat × List Value)} {G o : Nat} {f : Int} {bs : List Nat} {n : Int} (hl : Hid (bs.length = 16)) (hm : Hid (InL L G o (prefL f bs n))) (hw : Region.wanted op (yielded ops a.tmps) = true) (x : Operand) (ho : op.op = .load 27 x)
    (hx : a.eval x = .pointer (some ⟨G, o, none⟩)) : YieldsIf Tryd.prog ops (HeldL L) op (prefV f bs n) a :=
  yieldsIf_load_mid hw 27 x ho G o hx (prefL f bs n) _ (fun w h => hm.out w h) Tryd.underlying27 rfl (by rw [pref_size, prefL_len f bs n hl.out])
/-- A comparison of the entries es with a prefix: what it answers, and what it counts. -/
def Cmps (q : Nat) (pre : Array Value) (f : Int) (bs : List Nat) (n : Int) (es : List Ent) (M : List Nat) (Inv : Nat → World → Prop) : Prop :=
  ∀ c W e, c ≤ 100 → e ∈ es → Inv c W → Calls Tryd.prog q (pre ++ #[entV e.f e.b (e.n : Int) e.v, prefV f bs n]) W fun x w' => x = .returned (.int .i64 (cmpE e f bs n)) ∧ Inv (c + 1) w' ∧ Foot M M W w'
/-- Where a prefix stands, or would stand, and whether it is there. -/
structure Place (es : List Ent) (f : Int) (bs : List Nat) (n : Int) (i : Nat) (b : Bool) : Prop where
  le : i ≤ es.length
  lo : ∀ t (h : t < es.length), t < i → cmpE es[t] f bs n < 0
  hi : ∀ t (h : t < es.length), i ≤ t → 0 ≤ cmpE es[t] f bs n
  is : b = true → ∃ h : i < es.length, cmpE es[i] f bs n = 0
  no : b = false → ∀ h : i < es.length, cmpE es[i] f bs n ≠ 0
/-- Entries in their row. -/
def SortedE (es : List Ent) : Prop := ∀ i j (hi : i < es.length) (hj : j < es.length), i < j → cmpP es[i].f es[i].b (es[i].n : Int) es[j].f es[j].b (es[j].n : Int) < 0
theorem mono_neg {es : List Ent} (hs : SortedE es) (hg : AllGood es) {f : Int} {bs : List Nat} {n : Int} (h16 : bs.length = 16) {a b : Nat} (ha : a < es.length) (hb : b < es.length) (hab : a ≤ b) (h : cmpE es[b] f bs n < 0) : cmpE es[a] f bs n < 0 := by
  rcases Nat.lt_or_eq_of_le hab with hlt | rfl
  · have h1 := hs a b ha hb hlt
    have l1 := (hg _ (List.getElem_mem ha)).1.len
    have l2 := (hg _ (List.getElem_mem hb)).1.len
    unfold cmpE at h ⊢
    have h2 := cmpP_trans _ _ _ _ _ _ _ _ _ l1 l2 h16 (Int.le_of_lt h1) (Int.le_of_lt h)
    rcases Int.lt_or_eq_of_le h2 with h3 | h3
    · exact h3
    · exfalso
      obtain ⟨e1, e2, e3⟩ := (cmpP_zero _ _ _ _ _ _ l1 h16).1 h3
      rw [← e1, ← e2, ← e3] at h
      have h4 := cmpP_neg es[a].f es[a].b (es[a].n : Int) es[b].f es[b].b (es[b].n : Int)
      omega
  · exact h
set_option maxRecDepth 100000 in
set_option maxHeartbeats 4000000 in
theorem search_any (q : Nat) (pre : Array Value) (eq : ∀ args w, (callFunc q args).run Tryd.prog w = .ok (.enter q args) w) (f : Int) (bs : List Nat) (n : Int) (g cap : Nat) (es : List Ent) (M : List Nat) (Inv : Nat → World → Prop) (w : World)
    (hr : w.rangeAt g 0 (flatE es)) (hgl : g < w.heap.size) (hgM : g ∉ M) (hM : ∀ k ∈ M, k < w.heap.size) (hle : es.length ≤ 1000) (hgood : AllGood es) (hsort : SortedE es) (h16 : bs.length = 16)
    (hcmp : Cmps q pre f bs n es M Inv) (hinv : ∀ c W W', Inv c W → Below W.heap.size W W' → Inv c W') (h0 : Inv 0 w) :
    Calls Tryd.prog 64 #[.slice (some ⟨g, 0, none⟩) es.length cap, prefV f bs n, .func (.func q) pre #[]] w fun e w' =>
      ∃ (i : Nat) (b : Bool) (c : Nat), e = .returned (.tuple #[.int .i64 (i : Int), .bool b]) ∧ Place es f bs n i b ∧ Inv c w' ∧ c ≤ bl es.length + 1 ∧ Foot M M w w' := by
  have H16 := Lib.hid h16
  have HG := Lib.hid hgood
  have HSO := Lib.hid hsort
  have HCM := Lib.hid hcmp
  have HIN := Lib.hid hinv
  have HMO : Hid (∀ (a b : Nat) (ha : a < es.length) (hb : b < es.length), a ≤ b → cmpE es[b] f bs n < 0 → cmpE es[a] f bs n < 0) := Lib.hid (fun a b ha hb hab h => mono_neg hsort hgood h16 ha hb hab h)
  obtain ⟨cs, ecs, HP, HB⟩ := pref_boxed f bs n w h16
  rw [ecs]
  have HV0 := Lib.hid (hinv 0 _ _ h0 HB.out)
  have HR := Lib.hid (range_belowB hr HB.out hgl)
  have HGL := Lib.hid hgl
  have HGM := Lib.hid hgM
  have HML := Lib.hid hM
  have HF0 := Lib.hid (Foot.ofBelow M HB.out)
  have HBM : Hid (w.heap.size ∉ M) := Lib.hid (fun e => by have := hM _ e; omega)
  obtain ⟨N, hN⟩ : ∃ N, es.length = N := ⟨_, rfl⟩
  rw [hN] at hle ⊢
  have HN := Lib.hid hN
  have hbl := Lib.hid (bl_small hle)
  clear ecs h16 hgood hsort hcmp hinv h0 hr hgl hgM hM HB hN
  go_enter Tryd.func64, Tryd.ntmps64
  go_upto_region 1 with fail
  have HWZ : Hid (w.heap.size < (w.alloc (.cells cs 27)).heap.size) := Lib.hid HP.out.addr.lt
  generalize (w.alloc (.cells cs 27)) = W at *
  go_wp2_with fail
  go_loopw [9, 10] (fun s9 s10 wr => ∃ lo hi c : Nat, s9 = .int .i64 (lo : Int) ∧ s10 = .int .i64 (hi : Int) ∧ lo ≤ hi ∧ hi ≤ N ∧ Hid (c + bl (hi - lo) ≤ bl N) ∧ Hid (Inv c wr) ∧ Hid (wr.rangeAt g 0 (flatE es)) ∧ Hid (PrefAt wr w.heap.size f bs n) ∧ Hid (Foot M M w wr) ∧
    Hid ((∀ t (h : t < es.length), t < lo → cmpE es[t] f bs n < 0) ∧ (∀ t (h : t < es.length), hi ≤ t → 0 ≤ cmpE es[t] f bs n))) (fun s9 s10 _ => (intOf s10).toNat - (intOf s9).toNat)
  case atStart => exact ⟨0, N, 0, rfl, rfl, Nat.zero_le _, Nat.le_refl _, Lib.hid (by rw [Nat.zero_add, Nat.sub_zero]; exact Nat.le_refl _), HV0, HR, HP, HF0, Lib.hid ⟨fun t _ h => absurd h (Nat.not_lt_zero _), fun t h h2 => absurd h (by rw [HN.out]; omega)⟩⟩
  case round =>
    clear HV0 HR HP HF0
    obtain ⟨lo, hi, c, rfl, rfl, hlh, hin, HCC, HV, HR, HP, HF, HI⟩ := hrel
    have HGW : Hid (g < wr.heap.size) := Lib.hid (Nat.lt_of_lt_of_le HGL.out HF.out.size)
    have HBW : Hid (w.heap.size < wr.heap.size) := Lib.hid HP.out.addr.lt
    obtain ⟨L, hL⟩ : ∃ L, [(g, 0, flatE es), (w.heap.size, 0, prefL f bs n)] = L := ⟨_, rfl⟩
    have HK : Hid (HeldL L wr) := Lib.hid (by rw [← hL]; intro x hx; rcases List.mem_cons.1 hx with rfl | hx; exact HR.out; rw [List.mem_singleton.1 hx]; exact HP.out.range)
    have MP : Hid (InL L w.heap.size 0 (prefL f bs n)) := Lib.hid (fun W h => h.get (by rw [← hL]; simp))
    have ME : Hid (∀ k (hk : k < es.length), InL L g (k * 19) (entL es[k].f es[k].b (es[k].n : Int) es[k].v)) := Lib.hid (fun k hk W h => range_ent (h.get (by rw [← hL]; simp)) HG.out k hk)
    have HKN : Hid (∀ W', Foot M M wr W' → HeldL L W') := Lib.hid (fun W' hf => by
      rw [← hL]
      intro x hx
      rcases List.mem_cons.1 hx with rfl | hx
      · exact range_foot hf HR.out HGW.out HGM.out
      · rw [List.mem_singleton.1 hx]; exact range_foot hf HP.out.range HBW.out HBM.out)
    have HKP : Hid (∀ W', Foot M M wr W' → PrefAt W' w.heap.size f bs n) := Lib.hid (fun W' hf => HP.out.foot hf HBM.out)
    have HKR : Hid (∀ W', Foot M M wr W' → W'.rangeAt g 0 (flatE es)) := Lib.hid (fun W' hf => range_foot hf HR.out HGW.out HGM.out)
    clear hL
    by_cases hlt : lo < hi
    · obtain ⟨h, hh⟩ : ∃ h, (lo + hi) / 2 = h := ⟨_, rfl⟩
      have hhN : h < es.length := by have := HN.out; omega
      have hd : decide ((lo : Int) < (hi : Int)) = true := by simp; omega
      have HCE := Lib.hid (HCM.out c wr.drew es[h] (by have := HCC.out; have := hbl.out; omega) (List.getElem_mem hhN) (HIN.out c _ _ HV.out (Below.refl _ _).drew))
      have L16 : Hid (es[h].b.length = 16) := Lib.hid (HG.out _ (List.getElem_mem hhN)).1.len
      have MEh := Lib.hid (ME.out h hhN)
      obtain ⟨y, hy⟩ : ∃ y, es[h] = y := ⟨_, rfl⟩
      rw [hy] at HCE L16 MEh
      have HY : Hid (es[h] = y) := Lib.hid hy
      clear hy HV HR HP HCM HIN ME
      obtain ⟨cv, hcv⟩ : ∃ cv, cmpE y f bs n = cv := ⟨_, rfl⟩
      rw [hcv] at HCE
      have HCV : Hid (cmpE y f bs n = cv) := Lib.hid hcv
      clear hcv
      have hsum : IntKind.i64.wrap ((lo : Int) + (hi : Int)) = ((lo + hi : Nat) : Int) := by rw [IntKind.wrap_i64]; omega
      have HH := Lib.hid hh
      go_upto_region 5 with fail
      rw [show ((lo : Int) + (hi : Int)) / 2 = ((h : Nat) : Int) by omega]
      have hhn : h < N := by omega
      have hb1 : (0 : Int) ≤ (h : Int) := by omega
      have hb2 : (h : Int) < (N : Int) := by omega
      have HD := Lib.hid HK.out.drew
      clear HK
      refine wp_region_noPanic ?_
      refine wp_region_held_drew (S := HeldL L) (by kernel_rfl) HD.out (fun hHeld => ?_)
      clear HD
      refine wpAnyH_take (i := 0) (v := ?_) rfl (by kernel_rfl) (by kernel_rfl) (by kernel_rfl) (fun _ _ _ h => h) (Or.inl ⟨by rfl, ?_⟩) (by assumption) ?_
      rotate_left
      · (intro w hSw; go_simp; try (with_reducible rfl))
      try simp only [Act.put, List.getElem_toArray, List.getElem_cons_zero, List.setIfInBounds_toArray, List.set_cons_zero, List.set_cons_succ]
      refine wpAnyH_take (i := 1) (v := ?_) rfl (by kernel_rfl) (by kernel_rfl) (by kernel_rfl) (fun _ _ _ h => h) (Or.inl ⟨by rfl, ?_⟩) (by assumption) ?_
      rotate_left
      · (intro w hSw; go_simp; try (with_reducible rfl))
      try simp only [Act.put, List.getElem_toArray, List.getElem_cons_zero, List.getElem_cons_succ, List.setIfInBounds_toArray, List.set_cons_zero, List.set_cons_succ]
      refine wpAnyH_take (i := 2) (v := ?_) rfl (by kernel_rfl) (by kernel_rfl) (by kernel_rfl) (fun _ _ _ h => h) (Or.inl ⟨by rfl, ?_⟩) (by assumption) ?_
      rotate_left
      · (intro w hSw; go_simp; try (with_reducible rfl))
      try simp only [Act.put, List.getElem_toArray, List.getElem_cons_zero, List.getElem_cons_succ, List.setIfInBounds_toArray, List.set_cons_zero, List.set_cons_succ]
      refine wpAnyH_take (i := 3) (v := ?_) rfl (by kernel_rfl) (by kernel_rfl) (by kernel_rfl) (fun _ _ _ h => h) (Or.inl ⟨by rfl, ?_⟩) (by assumption) ?_
      rotate_left
      · (intro w hSw; go_simp; try (with_reducible rfl))
      try simp only [Act.put, List.getElem_toArray, List.getElem_cons_zero, List.getElem_cons_succ, List.setIfInBounds_toArray, List.set_cons_zero, List.set_cons_succ]
      refine wpAnyH_take (i := 4) rfl (by kernel_rfl) (by kernel_rfl) (by kernel_rfl) (fun _ _ _ h => h) (yields_ent_l L16 MEh (by rfl) _ rfl rfl) (by assumption) ?_
      try simp only [Act.put, List.getElem_toArray, List.getElem_cons_zero, List.getElem_cons_succ, List.setIfInBounds_toArray, List.set_cons_zero, List.set_cons_succ]
      refine wpAnyH_take (i := 5) rfl (by kernel_rfl) (by kernel_rfl) (by kernel_rfl) (fun _ _ _ h => h) (yields_pref_l H16 MP (by rfl) _ rfl rfl) (by assumption) ?_
      try simp only [Act.put, List.getElem_toArray, List.getElem_cons_zero, List.getElem_cons_succ, List.setIfInBounds_toArray, List.set_cons_zero, List.set_cons_succ]
      refine wpAnyH_ready (rs := [6]) (by kernel_rfl) (by simp) ?_
      refine AllReadyH.cons rfl (fun K hK => ?_) AllReadyH.nil
      go_simp
      refine HCE.out.mono ?_
      rintro e w6 ⟨rfl, hv6, hf6⟩
      have hf7 : Foot M M wr w6 := (Foot.ofBelow M (Below.refl _ _).drew).trans hf6
      have HV6 := Lib.hid hv6
      have HF6 := Lib.hid hf7
      have hS6 := HKN.out w6 hf7
      have HP6 := Lib.hid (HKP.out w6 hf7)
      have HR6 := Lib.hid (HKR.out w6 hf7)
      clear hf6 hf7 hv6 HCE
      go_wp2_with fail
      refine hK.out _ _ hS6 (fun hHeld6 => ?_)
      clear hK K
      try simp only [Act.put, List.getElem_toArray, List.getElem_cons_zero, List.getElem_cons_succ, List.setIfInBounds_toArray, List.set_cons_zero, List.set_cons_succ]
      by_cases hneg : cv < 0
      · have hdn : decide (cv < 0) = true := by simp [hneg]
        refine wpAnyH_take (i := 7) (v := ?_) rfl (by kernel_rfl) (by kernel_rfl) (by kernel_rfl) (fun _ _ _ h => h) (Or.inl ⟨by rfl, ?_⟩) (by assumption) ?_
        rotate_left
        · (intro w hSw; go_simp; try (with_reducible rfl))
        try simp only [Act.put, List.getElem_toArray, List.getElem_cons_zero, List.getElem_cons_succ, List.setIfInBounds_toArray, List.set_cons_zero, List.set_cons_succ]
        refine wpAnyH_done (by kernel_rfl) ?_ _
        refine NoPanic.normal ?_
        go_wp2_with fail
        go_roundw
        case rel => exact ⟨h + 1, hi, c + 1, by go_num, rfl, by omega, hin, Lib.hid (by have h1 := HCC.out; have h2 := bl_half (n := hi - lo) (x := hi - (h + 1)) (by omega) (by omega); omega), HV6, HR6, HP6, Lib.hid (HF.out.trans HF6.out), Lib.hid ⟨fun t ht htl => HMO.out t h ht hhN (by omega) (by rw [HY.out, HCV.out]; exact hneg), HI.out.2⟩⟩
        case measure => simp [intOf]; omega
      · have hdn : decide (cv < 0) = false := by simp; omega
        refine wpAnyH_take (i := 7) (v := ?_) rfl (by kernel_rfl) (by kernel_rfl) (by kernel_rfl) (fun _ _ _ h => h) (Or.inl ⟨by rfl, ?_⟩) (by assumption) ?_
        rotate_left
        · (intro w hSw; go_simp; try (with_reducible rfl))
        try simp only [Act.put, List.getElem_toArray, List.getElem_cons_zero, List.getElem_cons_succ, List.setIfInBounds_toArray, List.set_cons_zero, List.set_cons_succ]
        refine wpAnyH_done (by kernel_rfl) ?_ _
        refine NoPanic.normal ?_
        go_wp2_with fail
        go_roundw
        case rel => exact ⟨lo, h, c + 1, rfl, rfl, by omega, by omega, Lib.hid (by have h1 := HCC.out; have h2 := bl_half (n := hi - lo) (x := h - lo) (by omega) (by omega); omega), HV6, HR6, HP6, Lib.hid (HF.out.trans HF6.out), Lib.hid ⟨HI.out.1, fun t ht htl => Int.not_lt.1 fun hc => hneg (by have := HMO.out h t hhN ht htl hc; rw [HY.out, HCV.out] at this; exact this)⟩⟩
        case measure => simp [intOf]; omega
    · obtain rfl : hi = lo := by omega
      clear HBW HGW
      have hd : decide ((hi : Int) < (hi : Int)) = false := by simp
      by_cases hn : hi < N
      · have hhN : hi < es.length := by have := HN.out; omega
        have hdN : decide ((hi : Int) < (N : Int)) = true := by simp; omega
        have HCE := Lib.hid (HCM.out c wr.drew es[hi] (by have := HCC.out; have := hbl.out; omega) (List.getElem_mem hhN) (HIN.out c _ _ HV.out (Below.refl _ _).drew))
        have L16 : Hid (es[hi].b.length = 16) := Lib.hid (HG.out _ (List.getElem_mem hhN)).1.len
        have MEh := Lib.hid (ME.out hi hhN)
        obtain ⟨y, hy⟩ : ∃ y, es[hi] = y := ⟨_, rfl⟩
        rw [hy] at HCE L16 MEh
        have HY : Hid (es[hi] = y) := Lib.hid hy
        clear hy HV HR HP HCM HIN ME
        obtain ⟨cv, hcv⟩ : ∃ cv, cmpE y f bs n = cv := ⟨_, rfl⟩
        rw [hcv] at HCE
        have HCV : Hid (cmpE y f bs n = cv) := Lib.hid hcv
        clear hcv
        have HD := Lib.hid HK.out.drew
        clear HK
        go_upto_region 8 with fail
        have hb1 : (0 : Int) ≤ (hi : Int) := by omega
        have hb2 : (hi : Int) < (N : Int) := by omega
        refine wp_region_noPanic ?_
        refine wp_region_held_drew (S := HeldL L) (by kernel_rfl) HD.out (fun hHeld => ?_)
        clear HD
        refine wpAnyH_take (i := 0) (v := ?_) rfl (by kernel_rfl) (by kernel_rfl) (by kernel_rfl) (fun _ _ _ h => h) (Or.inl ⟨by rfl, ?_⟩) (by assumption) ?_
        rotate_left
        · (intro w hSw; go_simp; try (with_reducible rfl))
        try simp only [Act.put, List.getElem_toArray, List.getElem_cons_zero, List.setIfInBounds_toArray, List.set_cons_zero, List.set_cons_succ]
        refine wpAnyH_take (i := 1) (v := ?_) rfl (by kernel_rfl) (by kernel_rfl) (by kernel_rfl) (fun _ _ _ h => h) (Or.inl ⟨by rfl, ?_⟩) (by assumption) ?_
        rotate_left
        · (intro w hSw; go_simp; try (with_reducible rfl))
        try simp only [Act.put, List.getElem_toArray, List.getElem_cons_zero, List.getElem_cons_succ, List.setIfInBounds_toArray, List.set_cons_zero, List.set_cons_succ]
        refine wpAnyH_take (i := 2) (v := ?_) rfl (by kernel_rfl) (by kernel_rfl) (by kernel_rfl) (fun _ _ _ h => h) (Or.inl ⟨by rfl, ?_⟩) (by assumption) ?_
        rotate_left
        · (intro w hSw; go_simp; try (with_reducible rfl))
        try simp only [Act.put, List.getElem_toArray, List.getElem_cons_zero, List.getElem_cons_succ, List.setIfInBounds_toArray, List.set_cons_zero, List.set_cons_succ]
        refine wpAnyH_take (i := 3) (v := ?_) rfl (by kernel_rfl) (by kernel_rfl) (by kernel_rfl) (fun _ _ _ h => h) (Or.inl ⟨by rfl, ?_⟩) (by assumption) ?_
        rotate_left
        · (intro w hSw; go_simp; try (with_reducible rfl))
        try simp only [Act.put, List.getElem_toArray, List.getElem_cons_zero, List.getElem_cons_succ, List.setIfInBounds_toArray, List.set_cons_zero, List.set_cons_succ]
        refine wpAnyH_take (i := 4) (v := ?_) rfl (by kernel_rfl) (by kernel_rfl) (by kernel_rfl) (fun _ _ _ h => h) (Or.inl ⟨by rfl, ?_⟩) (by assumption) ?_
        rotate_left
        · (intro w hSw; go_simp; try (with_reducible rfl))
        try simp only [Act.put, List.getElem_toArray, List.getElem_cons_zero, List.getElem_cons_succ, List.setIfInBounds_toArray, List.set_cons_zero, List.set_cons_succ]
        refine wpAnyH_take (i := 5) (v := ?_) rfl (by kernel_rfl) (by kernel_rfl) (by kernel_rfl) (fun _ _ _ h => h) (Or.inl ⟨by rfl, ?_⟩) (by assumption) ?_
        rotate_left
        · (intro w hSw; go_simp; try (with_reducible rfl))
        try simp only [Act.put, List.getElem_toArray, List.getElem_cons_zero, List.getElem_cons_succ, List.setIfInBounds_toArray, List.set_cons_zero, List.set_cons_succ]
        refine wpAnyH_take (i := 6) (v := ?_) rfl (by kernel_rfl) (by kernel_rfl) (by kernel_rfl) (fun _ _ _ h => h) (Or.inl ⟨by rfl, ?_⟩) (by assumption) ?_
        rotate_left
        · (intro w hSw; go_simp; try (with_reducible rfl))
        try simp only [Act.put, List.getElem_toArray, List.getElem_cons_zero, List.getElem_cons_succ, List.setIfInBounds_toArray, List.set_cons_zero, List.set_cons_succ]
        refine wpAnyH_take (i := 7) (v := ?_) rfl (by kernel_rfl) (by kernel_rfl) (by kernel_rfl) (fun _ _ _ h => h) (Or.inl ⟨by rfl, ?_⟩) (by assumption) ?_
        rotate_left
        · (intro w hSw; go_simp; try (with_reducible rfl))
        try simp only [Act.put, List.getElem_toArray, List.getElem_cons_zero, List.getElem_cons_succ, List.setIfInBounds_toArray, List.set_cons_zero, List.set_cons_succ]
        refine wpAnyH_take (i := 8) (v := ?_) rfl (by kernel_rfl) (by kernel_rfl) (by kernel_rfl) (fun _ _ _ h => h) (Or.inl ⟨by rfl, ?_⟩) (by assumption) ?_
        rotate_left
        · (intro w hSw; go_simp; try (with_reducible rfl))
        try simp only [Act.put, List.getElem_toArray, List.getElem_cons_zero, List.getElem_cons_succ, List.setIfInBounds_toArray, List.set_cons_zero, List.set_cons_succ]
        refine wpAnyH_take (i := 9) rfl (by kernel_rfl) (by kernel_rfl) (by kernel_rfl) (fun _ _ _ h => h) (yields_ent_l L16 MEh (by rfl) _ rfl rfl) (by assumption) ?_
        try simp only [Act.put, List.getElem_toArray, List.getElem_cons_zero, List.getElem_cons_succ, List.setIfInBounds_toArray, List.set_cons_zero, List.set_cons_succ]
        refine wpAnyH_take (i := 10) rfl (by kernel_rfl) (by kernel_rfl) (by kernel_rfl) (fun _ _ _ h => h) (yields_pref_l H16 MP (by rfl) _ rfl rfl) (by assumption) ?_
        try simp only [Act.put, List.getElem_toArray, List.getElem_cons_zero, List.getElem_cons_succ, List.setIfInBounds_toArray, List.set_cons_zero, List.set_cons_succ]
        refine wpAnyH_ready (rs := [11]) (by kernel_rfl) (by simp) ?_
        refine AllReadyH.cons rfl (fun K hK => ?_) AllReadyH.nil
        go_simp
        refine HCE.out.mono ?_
        rintro e w6 ⟨rfl, hv6, hf6⟩
        have hf7 : Foot M M wr w6 := (Foot.ofBelow M (Below.refl _ _).drew).trans hf6
        have HV6 := Lib.hid hv6
        have HF6 := Lib.hid hf7
        have hS6 := HKN.out w6 hf7
        clear hf6 hf7 hv6 HCE
        go_wp2_with fail
        refine hK.out _ _ hS6 (fun hHeld6 => ?_)
        clear hK K
        try simp only [Act.put, List.getElem_toArray, List.getElem_cons_zero, List.getElem_cons_succ, List.setIfInBounds_toArray, List.set_cons_zero, List.set_cons_succ]
        obtain ⟨b, hb⟩ : ∃ b, (cv == 0) = b := ⟨_, rfl⟩
        refine wpAnyH_take (i := 12) (v := ?_) rfl (by kernel_rfl) (by kernel_rfl) (by kernel_rfl) (fun _ _ _ h => h) (Or.inl ⟨by rfl, ?_⟩) (by assumption) ?_
        rotate_left
        · (intro w hSw; go_simp; try (with_reducible rfl))
        try simp only [Act.put, List.getElem_toArray, List.getElem_cons_zero, List.getElem_cons_succ, List.setIfInBounds_toArray, List.set_cons_zero, List.set_cons_succ]
        refine wpAnyH_take (i := 13) (v := ?_) rfl (by kernel_rfl) (by kernel_rfl) (by kernel_rfl) (fun _ _ _ h => h) (Or.inl ⟨by rfl, ?_⟩) (by assumption) ?_
        rotate_left
        · (intro w hSw; go_simp; try (with_reducible rfl))
        try simp only [Act.put, List.getElem_toArray, List.getElem_cons_zero, List.getElem_cons_succ, List.setIfInBounds_toArray, List.set_cons_zero, List.set_cons_succ]
        refine wpAnyH_take (i := 14) (v := ?_) rfl (by kernel_rfl) (by kernel_rfl) (by kernel_rfl) (fun _ _ _ h => h) (Or.inl ⟨by rfl, ?_⟩) (by assumption) ?_
        rotate_left
        · (intro w hSw; go_simp; try (with_reducible rfl))
        try simp only [Act.put, List.getElem_toArray, List.getElem_cons_zero, List.getElem_cons_succ, List.setIfInBounds_toArray, List.set_cons_zero, List.set_cons_succ]
        refine wpAnyH_take (i := 15) (v := ?_) rfl (by kernel_rfl) (by kernel_rfl) (by kernel_rfl) (fun _ _ _ h => h) (Or.inl ⟨by rfl, ?_⟩) (by assumption) ?_
        rotate_left
        · (intro w hSw; go_simp; try (with_reducible rfl))
        try simp only [Act.put, List.getElem_toArray, List.getElem_cons_zero, List.getElem_cons_succ, List.setIfInBounds_toArray, List.set_cons_zero, List.set_cons_succ]
        refine wpAnyH_done (by kernel_rfl) ?_ _
        refine NoPanic.normal ?_
        go_wp2_with fail
        go_ret2
        refine ⟨hi, b, c + 1, rfl, ⟨by omega, HI.out.1, HI.out.2, fun e => ⟨hhN, ?_⟩, fun e h => ?_⟩, HV6.out, ?_, HF.out.trans HF6.out⟩
        · rw [HY.out, HCV.out]; rw [e] at hb; simpa using hb
        · rw [HY.out, HCV.out]; rw [e] at hb; simpa using hb
        · have := HCC.out; omega
      · have hdN : decide ((hi : Int) < (N : Int)) = false := by simp; omega
        have HD := Lib.hid HK.out.drew
        have HVD := Lib.hid (HIN.out c _ _ HV.out (Below.refl _ _).drew)
        clear HK HV HR HP HCM HIN ME
        go_upto_region 8 with fail
        refine wp_region_noPanic ?_
        refine wp_region_held_drew (S := HeldL L) (by kernel_rfl) HD.out (fun hHeld => ?_)
        clear HD
        refine wpAnyH_take (i := 0) (v := ?_) rfl (by kernel_rfl) (by kernel_rfl) (by kernel_rfl) (fun _ _ _ h => h) (Or.inl ⟨by rfl, ?_⟩) (by assumption) ?_
        rotate_left
        · (intro w hSw; go_simp; try (with_reducible rfl))
        try simp only [Act.put, List.getElem_toArray, List.getElem_cons_zero, List.setIfInBounds_toArray, List.set_cons_zero, List.set_cons_succ]
        refine wpAnyH_take (i := 1) (v := ?_) rfl (by kernel_rfl) (by kernel_rfl) (by kernel_rfl) (fun _ _ _ h => h) (Or.inl ⟨by rfl, ?_⟩) (by assumption) ?_
        rotate_left
        · (intro w hSw; go_simp; try (with_reducible rfl))
        try simp only [Act.put, List.getElem_toArray, List.getElem_cons_zero, List.getElem_cons_succ, List.setIfInBounds_toArray, List.set_cons_zero, List.set_cons_succ]
        refine wpAnyH_take (i := 2) (v := ?_) rfl (by kernel_rfl) (by kernel_rfl) (by kernel_rfl) (fun _ _ _ h => h) (Or.inl ⟨by rfl, ?_⟩) (by assumption) ?_
        rotate_left
        · (intro w hSw; go_simp; try (with_reducible rfl))
        try simp only [Act.put, List.getElem_toArray, List.getElem_cons_zero, List.getElem_cons_succ, List.setIfInBounds_toArray, List.set_cons_zero, List.set_cons_succ]
        refine wpAnyH_take (i := 3) (v := ?_) rfl (by kernel_rfl) (by kernel_rfl) (by kernel_rfl) (fun _ _ _ h => h) (Or.inl ⟨by rfl, ?_⟩) (by assumption) ?_
        rotate_left
        · (intro w hSw; go_simp; try (with_reducible rfl))
        try simp only [Act.put, List.getElem_toArray, List.getElem_cons_zero, List.getElem_cons_succ, List.setIfInBounds_toArray, List.set_cons_zero, List.set_cons_succ]
        refine wpAnyH_take (i := 4) (v := ?_) rfl (by kernel_rfl) (by kernel_rfl) (by kernel_rfl) (fun _ _ _ h => h) (Or.inl ⟨by rfl, ?_⟩) (by assumption) ?_
        rotate_left
        · (intro w hSw; go_simp; try (with_reducible rfl))
        try simp only [Act.put, List.getElem_toArray, List.getElem_cons_zero, List.getElem_cons_succ, List.setIfInBounds_toArray, List.set_cons_zero, List.set_cons_succ]
        refine wpAnyH_take (i := 5) (v := undef) rfl (by kernel_rfl) (by kernel_rfl) (by kernel_rfl) (fun _ _ _ h => h) (Or.inr ⟨by rfl, rfl⟩) (by assumption) ?_
        try simp only [Act.put, List.getElem_toArray, List.getElem_cons_zero, List.getElem_cons_succ, List.setIfInBounds_toArray, List.set_cons_zero, List.set_cons_succ]
        refine wpAnyH_take (i := 6) (v := undef) rfl (by kernel_rfl) (by kernel_rfl) (by kernel_rfl) (fun _ _ _ h => h) (Or.inr ⟨by rfl, rfl⟩) (by assumption) ?_
        try simp only [Act.put, List.getElem_toArray, List.getElem_cons_zero, List.getElem_cons_succ, List.setIfInBounds_toArray, List.set_cons_zero, List.set_cons_succ]
        refine wpAnyH_take (i := 7) (v := undef) rfl (by kernel_rfl) (by kernel_rfl) (by kernel_rfl) (fun _ _ _ h => h) (Or.inr ⟨by rfl, rfl⟩) (by assumption) ?_
        try simp only [Act.put, List.getElem_toArray, List.getElem_cons_zero, List.getElem_cons_succ, List.setIfInBounds_toArray, List.set_cons_zero, List.set_cons_succ]
        refine wpAnyH_take (i := 8) (v := undef) rfl (by kernel_rfl) (by kernel_rfl) (by kernel_rfl) (fun _ _ _ h => h) (Or.inr ⟨by rfl, rfl⟩) (by assumption) ?_
        try simp only [Act.put, List.getElem_toArray, List.getElem_cons_zero, List.getElem_cons_succ, List.setIfInBounds_toArray, List.set_cons_zero, List.set_cons_succ]
        refine wpAnyH_take (i := 9) (v := undef) rfl (by kernel_rfl) (by kernel_rfl) (by kernel_rfl) (fun _ _ _ h => h) (Or.inr ⟨by rfl, rfl⟩) (by assumption) ?_
        try simp only [Act.put, List.getElem_toArray, List.getElem_cons_zero, List.getElem_cons_succ, List.setIfInBounds_toArray, List.set_cons_zero, List.set_cons_succ]
        refine wpAnyH_take (i := 10) (v := undef) rfl (by kernel_rfl) (by kernel_rfl) (by kernel_rfl) (fun _ _ _ h => h) (Or.inr ⟨by rfl, rfl⟩) (by assumption) ?_
        try simp only [Act.put, List.getElem_toArray, List.getElem_cons_zero, List.getElem_cons_succ, List.setIfInBounds_toArray, List.set_cons_zero, List.set_cons_succ]
        refine wpAnyH_take (i := 11) (v := undef) rfl (by kernel_rfl) (by kernel_rfl) (by kernel_rfl) (fun _ _ _ h => h) (Or.inr ⟨by rfl, rfl⟩) (by assumption) ?_
        try simp only [Act.put, List.getElem_toArray, List.getElem_cons_zero, List.getElem_cons_succ, List.setIfInBounds_toArray, List.set_cons_zero, List.set_cons_succ]
        refine wpAnyH_take (i := 12) (v := undef) rfl (by kernel_rfl) (by kernel_rfl) (by kernel_rfl) (fun _ _ _ h => h) (Or.inr ⟨by rfl, rfl⟩) (by assumption) ?_
        try simp only [Act.put, List.getElem_toArray, List.getElem_cons_zero, List.getElem_cons_succ, List.setIfInBounds_toArray, List.set_cons_zero, List.set_cons_succ]
        refine wpAnyH_take (i := 13) (v := ?_) rfl (by kernel_rfl) (by kernel_rfl) (by kernel_rfl) (fun _ _ _ h => h) (Or.inl ⟨by rfl, ?_⟩) (by assumption) ?_
        rotate_left
        · (intro w hSw; go_simp; try (with_reducible rfl))
        try simp only [Act.put, List.getElem_toArray, List.getElem_cons_zero, List.getElem_cons_succ, List.setIfInBounds_toArray, List.set_cons_zero, List.set_cons_succ]
        refine wpAnyH_take (i := 14) (v := ?_) rfl (by kernel_rfl) (by kernel_rfl) (by kernel_rfl) (fun _ _ _ h => h) (Or.inl ⟨by rfl, ?_⟩) (by assumption) ?_
        rotate_left
        · (intro w hSw; go_simp; try (with_reducible rfl))
        try simp only [Act.put, List.getElem_toArray, List.getElem_cons_zero, List.getElem_cons_succ, List.setIfInBounds_toArray, List.set_cons_zero, List.set_cons_succ]
        refine wpAnyH_take (i := 15) (v := ?_) rfl (by kernel_rfl) (by kernel_rfl) (by kernel_rfl) (fun _ _ _ h => h) (Or.inl ⟨by rfl, ?_⟩) (by assumption) ?_
        rotate_left
        · (intro w hSw; go_simp; try (with_reducible rfl))
        try simp only [Act.put, List.getElem_toArray, List.getElem_cons_zero, List.getElem_cons_succ, List.setIfInBounds_toArray, List.set_cons_zero, List.set_cons_succ]
        refine wpAnyH_done (by kernel_rfl) ?_ _
        refine NoPanic.normal ?_
        go_wp2_with fail
        go_ret2
        refine ⟨hi, false, c, rfl, ⟨by have := HN.out; omega, HI.out.1, HI.out.2, (fun e => by cases e), fun _ h => absurd h (by have := HN.out; omega)⟩, HVD.out, ?_, HF.out.trans (Foot.ofBelow M (Below.refl _ _).drew)⟩
        have := HCC.out; omega
theorem place_nil (f : Int) (bs : List Nat) (n : Int) : Place [] f bs n 0 false := ⟨Nat.le_refl _, fun t h => absurd h (by simp), fun t h => absurd h (by simp), (fun e => by cases e), fun _ h => absurd h (by simp)⟩
set_option maxRecDepth 100000 in
set_option maxHeartbeats 2000000 in
theorem search_nil (fv : Value) (f : Int) (bs : List Nat) (n : Int) (w : World) (h16 : bs.length = 16) :
    Calls Tryd.prog 64 #[.slice none 0 0, prefV f bs n, fv] w fun e w' =>
      e = .returned (.tuple #[.int .i64 0, .bool false]) ∧ Below w.heap.size w w' := by
  obtain ⟨cs, ecs, HP, HB⟩ := pref_boxed f bs n w h16
  rw [ecs]
  clear ecs h16
  go_enter Tryd.func64, Tryd.ntmps64
  go_upto_region 1 with fail
  generalize (w.alloc (.cells cs 27)) = W at *
  go_wp2_with fail
  go_loop [9, 10] (fun i j => i = .int .i64 0 ∧ j = .int .i64 0) (fun _ _ => 0)
  case atStart => exact ⟨rfl, rfl⟩
  case round =>
    obtain ⟨rfl, rfl⟩ := hrel
    have HD : Hid (HeldL [] W.drew) := Lib.hid (fun x hx => by cases hx)
    go_upto_region 8 with fail
    refine wp_region_noPanic ?_
    refine wp_region_held_drew (S := HeldL []) (by kernel_rfl) HD.out (fun hHeld => ?_)
    clear HD
    refine wpAnyH_take (i := 0) (v := ?_) rfl (by kernel_rfl) (by kernel_rfl) (by kernel_rfl) (fun _ _ _ h => h) (Or.inl ⟨by rfl, ?_⟩) (by assumption) ?_
    rotate_left
    · (intro w hSw; go_simp; try (with_reducible rfl))
    try simp only [Act.put, List.getElem_toArray, List.getElem_cons_zero, List.setIfInBounds_toArray, List.set_cons_zero, List.set_cons_succ]
    refine wpAnyH_take (i := 1) (v := ?_) rfl (by kernel_rfl) (by kernel_rfl) (by kernel_rfl) (fun _ _ _ h => h) (Or.inl ⟨by rfl, ?_⟩) (by assumption) ?_
    rotate_left
    · (intro w hSw; go_simp; try (with_reducible rfl))
    try simp only [Act.put, List.getElem_toArray, List.getElem_cons_zero, List.getElem_cons_succ, List.setIfInBounds_toArray, List.set_cons_zero, List.set_cons_succ]
    refine wpAnyH_take (i := 2) (v := ?_) rfl (by kernel_rfl) (by kernel_rfl) (by kernel_rfl) (fun _ _ _ h => h) (Or.inl ⟨by rfl, ?_⟩) (by assumption) ?_
    rotate_left
    · (intro w hSw; go_simp; try (with_reducible rfl))
    try simp only [Act.put, List.getElem_toArray, List.getElem_cons_zero, List.getElem_cons_succ, List.setIfInBounds_toArray, List.set_cons_zero, List.set_cons_succ]
    refine wpAnyH_take (i := 3) (v := ?_) rfl (by kernel_rfl) (by kernel_rfl) (by kernel_rfl) (fun _ _ _ h => h) (Or.inl ⟨by rfl, ?_⟩) (by assumption) ?_
    rotate_left
    · (intro w hSw; go_simp; try (with_reducible rfl))
    try simp only [Act.put, List.getElem_toArray, List.getElem_cons_zero, List.getElem_cons_succ, List.setIfInBounds_toArray, List.set_cons_zero, List.set_cons_succ]
    refine wpAnyH_take (i := 4) (v := ?_) rfl (by kernel_rfl) (by kernel_rfl) (by kernel_rfl) (fun _ _ _ h => h) (Or.inl ⟨by rfl, ?_⟩) (by assumption) ?_
    rotate_left
    · (intro w hSw; go_simp; try (with_reducible rfl))
    try simp only [Act.put, List.getElem_toArray, List.getElem_cons_zero, List.getElem_cons_succ, List.setIfInBounds_toArray, List.set_cons_zero, List.set_cons_succ]
    refine wpAnyH_take (i := 5) (v := undef) rfl (by kernel_rfl) (by kernel_rfl) (by kernel_rfl) (fun _ _ _ h => h) (Or.inr ⟨by rfl, rfl⟩) (by assumption) ?_
    try simp only [Act.put, List.getElem_toArray, List.getElem_cons_zero, List.getElem_cons_succ, List.setIfInBounds_toArray, List.set_cons_zero, List.set_cons_succ]
    refine wpAnyH_take (i := 6) (v := undef) rfl (by kernel_rfl) (by kernel_rfl) (by kernel_rfl) (fun _ _ _ h => h) (Or.inr ⟨by rfl, rfl⟩) (by assumption) ?_
    try simp only [Act.put, List.getElem_toArray, List.getElem_cons_zero, List.getElem_cons_succ, List.setIfInBounds_toArray, List.set_cons_zero, List.set_cons_succ]
    refine wpAnyH_take (i := 7) (v := undef) rfl (by kernel_rfl) (by kernel_rfl) (by kernel_rfl) (fun _ _ _ h => h) (Or.inr ⟨by rfl, rfl⟩) (by assumption) ?_
    try simp only [Act.put, List.getElem_toArray, List.getElem_cons_zero, List.getElem_cons_succ, List.setIfInBounds_toArray, List.set_cons_zero, List.set_cons_succ]
    refine wpAnyH_take (i := 8) (v := undef) rfl (by kernel_rfl) (by kernel_rfl) (by kernel_rfl) (fun _ _ _ h => h) (Or.inr ⟨by rfl, rfl⟩) (by assumption) ?_
    try simp only [Act.put, List.getElem_toArray, List.getElem_cons_zero, List.getElem_cons_succ, List.setIfInBounds_toArray, List.set_cons_zero, List.set_cons_succ]
    refine wpAnyH_take (i := 9) (v := undef) rfl (by kernel_rfl) (by kernel_rfl) (by kernel_rfl) (fun _ _ _ h => h) (Or.inr ⟨by rfl, rfl⟩) (by assumption) ?_
    try simp only [Act.put, List.getElem_toArray, List.getElem_cons_zero, List.getElem_cons_succ, List.setIfInBounds_toArray, List.set_cons_zero, List.set_cons_succ]
    refine wpAnyH_take (i := 10) (v := undef) rfl (by kernel_rfl) (by kernel_rfl) (by kernel_rfl) (fun _ _ _ h => h) (Or.inr ⟨by rfl, rfl⟩) (by assumption) ?_
    try simp only [Act.put, List.getElem_toArray, List.getElem_cons_zero, List.getElem_cons_succ, List.setIfInBounds_toArray, List.set_cons_zero, List.set_cons_succ]
    refine wpAnyH_take (i := 11) (v := undef) rfl (by kernel_rfl) (by kernel_rfl) (by kernel_rfl) (fun _ _ _ h => h) (Or.inr ⟨by rfl, rfl⟩) (by assumption) ?_
    try simp only [Act.put, List.getElem_toArray, List.getElem_cons_zero, List.getElem_cons_succ, List.setIfInBounds_toArray, List.set_cons_zero, List.set_cons_succ]
    refine wpAnyH_take (i := 12) (v := undef) rfl (by kernel_rfl) (by kernel_rfl) (by kernel_rfl) (fun _ _ _ h => h) (Or.inr ⟨by rfl, rfl⟩) (by assumption) ?_
    try simp only [Act.put, List.getElem_toArray, List.getElem_cons_zero, List.getElem_cons_succ, List.setIfInBounds_toArray, List.set_cons_zero, List.set_cons_succ]
    refine wpAnyH_take (i := 13) (v := ?_) rfl (by kernel_rfl) (by kernel_rfl) (by kernel_rfl) (fun _ _ _ h => h) (Or.inl ⟨by rfl, ?_⟩) (by assumption) ?_
    rotate_left
    · (intro w hSw; go_simp; try (with_reducible rfl))
    try simp only [Act.put, List.getElem_toArray, List.getElem_cons_zero, List.getElem_cons_succ, List.setIfInBounds_toArray, List.set_cons_zero, List.set_cons_succ]
    refine wpAnyH_take (i := 14) (v := ?_) rfl (by kernel_rfl) (by kernel_rfl) (by kernel_rfl) (fun _ _ _ h => h) (Or.inl ⟨by rfl, ?_⟩) (by assumption) ?_
    rotate_left
    · (intro w hSw; go_simp; try (with_reducible rfl))
    try simp only [Act.put, List.getElem_toArray, List.getElem_cons_zero, List.getElem_cons_succ, List.setIfInBounds_toArray, List.set_cons_zero, List.set_cons_succ]
    refine wpAnyH_take (i := 15) (v := ?_) rfl (by kernel_rfl) (by kernel_rfl) (by kernel_rfl) (fun _ _ _ h => h) (Or.inl ⟨by rfl, ?_⟩) (by assumption) ?_
    rotate_left
    · (intro w hSw; go_simp; try (with_reducible rfl))
    try simp only [Act.put, List.getElem_toArray, List.getElem_cons_zero, List.getElem_cons_succ, List.setIfInBounds_toArray, List.set_cons_zero, List.set_cons_succ]
    refine wpAnyH_done (by kernel_rfl) ?_ _
    refine NoPanic.normal ?_
    go_wp2_with fail
    go_ret2
    exact ⟨rfl, chain HB.out (Below.refl _ _).drew⟩
end Go.Proofs.YtgbajagacmfcmaaDoor
/- Plain facts on the prefixes of one address. -/
namespace Go.Proofs.YtgbajagacmfcmaaDoor
open Go.RowKit
set_option linter.unusedVariables false
set_option maxRecDepth 20000

section
variable {f g : Int} {bs us : List Nat}
theorem GoodA.mask (h : GoodA f bs) (m : Nat) (hm : m ≤ bitsN f) : GoodP f (withL (bitsN f) bs m 0) m := by
  have := mask_is (bs := bs) (m : Int) h.pos
  rw [maskN_nat f m hm] at this
  exact this
theorem GoodA.all (h : GoodA f bs) (b : Nat) (hb : b ≤ 1) : withL (bitsN f) bs (bitsN f) b = bs :=
  bits_ext (withL_len _ _ _ _) h.len (withL_lt _ _ _ _ hb) h.lt (fun i hi => by
    rw [bitA_with _ _ _ _ _ hb hi]
    unfold withF
    by_cases h1 : i < bitsN f
    · rw [if_pos h1, if_neg (by omega)]
    · rw [if_neg h1, h.zero i hi (by omega)])
theorem GoodA.whole (h : GoodA f bs) : GoodP f bs (bitsN f) := ⟨h.pos, h.len, h.lt, Nat.le_refl _, h.zero⟩
theorem mask_has (h : GoodA f bs) (m : Nat) (hm : m ≤ bitsN f) : hasR f (withL (bitsN f) bs m 0) (m : Int) f bs = true := by
  have hN := bitsN_le f
  refine (hasR_iff (h.mask m hm) h.len).2 ⟨rfl, fun i hi => ?_⟩
  rw [bitA_with _ _ _ _ _ (by decide) (by omega), withF_at (by omega) hi]
theorem mask_within (h : GoodA f bs) (m n : Nat) (hm : m ≤ bitsN f) (hn : n ≤ bitsN f) : withinR f (withL (bitsN f) bs m 0) (m : Int) f (withL (bitsN f) bs n 0) (n : Int) = decide (n ≤ m) := by
  have hN := bitsN_le f
  rw [Bool.eq_iff_iff, withinR_iff (h.mask m hm) (h.mask n hn), decide_eq_true_iff]
  refine ⟨fun e => e.1, fun e => ⟨e, rfl, fun i hi => ?_⟩⟩
  rw [bitA_with _ _ _ _ _ (by decide) (by omega), bitA_with _ _ _ _ _ (by decide) (by omega), withF_at (by omega) hi, withF_at (by omega) (by omega)]
theorem whole_has (h : GoodA f bs) (hu : GoodA g us) : hasR f bs ((bitsN f : Nat) : Int) g us = decide (f = g ∧ bs = us) := by
  rw [Bool.eq_iff_iff, hasR_iff h.whole hu.len, decide_eq_true_iff]
  constructor
  · rintro ⟨rfl, e⟩
    exact ⟨rfl, bits_ext h.len hu.len h.lt hu.lt (fun i hi => by
      by_cases h1 : i < bitsN f
      · exact e i h1
      · rw [h.zero i hi (by omega), hu.zero i hi (by omega)])⟩
  · rintro ⟨rfl, rfl⟩
    exact ⟨rfl, fun _ _ => rfl⟩
theorem whole_last (h : GoodA f bs) : lastL bs (bitsN f) (bitsN f) = bs := by
  rw [h.whole.last, h.all 1 (by decide)]
end
end Go.Proofs.YtgbajagacmfcmaaDoor
/- Plain facts on entries in their row: what is set, dropped and got, by the place that is found. -/
namespace Go.Proofs.YtgbajagacmfcmaaDoor
open Go.RowKit
set_option linter.unusedVariables false
set_option maxRecDepth 20000

theorem cmpE_zero {e : Ent} {f : Int} {bs : List Nat} {n : Int} (hl : e.b.length = 16) (h16 : bs.length = 16) : cmpE e f bs n = 0 ↔ isEnt f bs n e = true := by
  unfold cmpE isEnt
  rw [cmpP_zero _ _ _ _ _ _ hl h16, decide_eq_true_iff]
section
variable {es : List Ent} {f : Int} {bs : List Nat} {n : Int} {i : Nat}
theorem Place.only {b : Bool} (hp : Place es f bs n i b) (hg : AllGood es) (hs : SortedE es) (h16 : bs.length = 16) {t : Nat} (ht : t < es.length) (h : isEnt f bs n es[t] = true) : t = i ∧ b = true := by
  have hl : es[t].b.length = 16 := (hg _ (List.getElem_mem ht)).1.len
  have h0 := (cmpE_zero (n := n) hl h16).2 h
  have hi : i ≤ t := by
    apply Classical.byContradiction
    intro h2
    have := hp.lo t ht (by omega)
    omega
  have hti : t = i := by
    rcases Nat.lt_or_eq_of_le hi with hlt | e
    · exfalso
      have h1 := hp.hi i (by omega) (Nat.le_refl _)
      have h2 := hs i t (by omega) ht hlt
      obtain ⟨e1, e2, e3⟩ := (cmpP_zero _ _ _ _ _ _ hl h16).1 h0
      unfold cmpE at h1
      rw [← e1, ← e2, ← e3] at h1
      omega
    · exact e.symm
  refine ⟨hti, ?_⟩
  subst hti
  cases b with
  | true => rfl
  | false => exact absurd h0 (hp.no rfl ht)
theorem Place.isAt (hp : Place es f bs n i true) (hg : AllGood es) (h16 : bs.length = 16) : ∃ h : i < es.length, isEnt f bs n es[i] = true := by
  obtain ⟨h, h0⟩ := hp.is rfl
  exact ⟨h, (cmpE_zero (hg _ (List.getElem_mem h)).1.len h16).1 h0⟩
theorem Place.none (hp : Place es f bs n i false) (hg : AllGood es) (hs : SortedE es) (h16 : bs.length = 16) : ∀ e ∈ es, isEnt f bs n e = false := by
  intro e he
  obtain ⟨t, ht, rfl⟩ := List.getElem_of_mem he
  cases h : isEnt f bs n es[t] with
  | false => rfl
  | true => have := (hp.only hg hs h16 ht h).2; cases this
theorem filter_keep {l : List Ent} (h : ∀ e ∈ l, isEnt f bs n e = false) : l.filter (fun e => !isEnt f bs n e) = l := List.filter_eq_self.2 (fun e he => by rw [h e he]; rfl)
theorem split_at {l : List Ent} {i : Nat} (h : i < l.length) : l = l.take i ++ l[i] :: l.drop (i + 1) := by rw [← List.drop_eq_getElem_cons h, List.take_append_drop]
theorem drop_none (hp : Place es f bs n i false) (hg : AllGood es) (hs : SortedE es) (h16 : bs.length = 16) : dropE es f bs n = es := filter_keep (hp.none hg hs h16)
theorem drop_at (hp : Place es f bs n i true) (hg : AllGood es) (hs : SortedE es) (h16 : bs.length = 16) : dropE es f bs n = es.take i ++ es.drop (i + 1) := by
  obtain ⟨h, h0⟩ := hp.isAt hg h16
  unfold dropE
  conv => lhs; rw [split_at h]
  rw [List.filter_append, List.filter_cons, if_neg (by rw [h0]; decide), filter_keep (l := es.take i), filter_keep (l := es.drop (i + 1))]
  · intro e he
    obtain ⟨t, ht, rfl⟩ := List.getElem_of_mem he
    rw [List.length_drop] at ht
    rw [List.getElem_drop]
    cases hh : isEnt f bs n es[i + 1 + t] with
    | false => rfl
    | true => have := (hp.only hg hs h16 (by omega) hh).1; omega
  · intro e he
    obtain ⟨t, ht, rfl⟩ := List.getElem_of_mem he
    rw [List.length_take] at ht
    rw [List.getElem_take]
    cases hh : isEnt f bs n es[t] with
    | false => rfl
    | true => have := (hp.only hg hs h16 (by omega) hh).1; omega
theorem get_none (hp : Place es f bs n i false) (hg : AllGood es) (hs : SortedE es) (h16 : bs.length = 16) : getE es f bs n = Option.none := by
  unfold getE
  rw [List.find?_eq_none.2 (fun e he => by rw [hp.none hg hs h16 e he]; decide)]
  rfl
theorem get_at (hp : Place es f bs n i true) (hg : AllGood es) (hs : SortedE es) (h16 : bs.length = 16) (h : i < es.length) : getE es f bs n = some es[i].v := by
  obtain ⟨_, h0⟩ := hp.isAt hg h16
  unfold getE
  have : es.find? (isEnt f bs n) = some es[i] := by
    rw [List.find?_eq_some_iff_getElem]
    refine ⟨h0, i, h, rfl, fun j hj => ?_⟩
    cases hh : isEnt f bs n es[j] with
    | false => rfl
    | true => have := (hp.only hg hs h16 (by omega) hh).1; omega
  rw [this]
  rfl
/-- A row whose first are all smaller and whose last are all greater: one's place. -/
theorem pos_at (rest : List Ent) (j : Nat) (hj : j ≤ rest.length) (lo : ∀ t (h : t < rest.length), t < j → 0 ≤ cmpP f bs n rest[t].f rest[t].b (rest[t].n : Int)) (hi : ∀ t (h : t < rest.length), j ≤ t → cmpP f bs n rest[t].f rest[t].b (rest[t].n : Int) < 0) :
    ∀ k, j ≤ k → k ≤ rest.length → posE rest f bs n k = j
  | 0, h1, h2 => by rw [posE]; omega
  | k + 1, h1, h2 => by
    rw [posE, List.getElem?_eq_getElem (by omega)]
    show (if cmpP f bs n rest[k].f rest[k].b (rest[k].n : Int) < 0 then posE rest f bs n k else k + 1) = j
    by_cases hk : j ≤ k
    · rw [if_pos (hi k (by omega) hk)]
      exact pos_at rest j hj lo hi k hk (by omega)
    · rw [if_neg (by have := lo k (by omega) (by omega); omega)]
      omega
theorem neg_lt {e : Ent} (h : cmpE e f bs n < 0) : 0 ≤ cmpP f bs n e.f e.b (e.n : Int) := by
  have := cmpP_neg e.f e.b (e.n : Int) f bs n
  unfold cmpE at h
  omega
theorem neg_gt {e : Ent} (h : 0 ≤ cmpE e f bs n) (h0 : cmpE e f bs n ≠ 0) : cmpP f bs n e.f e.b (e.n : Int) < 0 := by
  have := cmpP_neg e.f e.b (e.n : Int) f bs n
  unfold cmpE at h h0
  omega
theorem set_none (x : Int) (hp : Place es f bs n i false) (hg : AllGood es) (hs : SortedE es) (h16 : bs.length = 16) (hlt : ∀ y ∈ bs, y < 256) (hm : mayP f bs n = true) : setE es f bs n x = es.take i ++ [⟨f, bs, n.toNat, x⟩] ++ es.drop i := by
  have hn := (mayP_good h16 hlt hm).2
  unfold setE
  rw [if_pos hm, drop_none hp hg hs h16]
  unfold insE
  have e : posE es f bs ((n.toNat : Nat) : Int) es.length = i := by
    rw [← hn]
    refine pos_at es i hp.le (fun t h ht => neg_lt (hp.lo t h ht)) (fun t h ht => neg_gt (hp.hi t h ht) (fun h0 => ?_)) es.length hp.le (Nat.le_refl _)
    have := hp.none hg hs h16 es[t] (List.getElem_mem h)
    rw [(cmpE_zero (hg _ (List.getElem_mem h)).1.len h16).1 h0] at this
    cases this
  show es.take (posE es f bs ((n.toNat : Nat) : Int) es.length) ++ _ ++ es.drop (posE es f bs ((n.toNat : Nat) : Int) es.length) = _
  rw [e]
theorem set_at (x : Int) (hp : Place es f bs n i true) (hg : AllGood es) (hs : SortedE es) (h16 : bs.length = 16) (hlt : ∀ y ∈ bs, y < 256) (hm : mayP f bs n = true) : setE es f bs n x = es.take i ++ [⟨f, bs, n.toNat, x⟩] ++ es.drop (i + 1) := by
  have hn := (mayP_good h16 hlt hm).2
  obtain ⟨hil, h0⟩ := hp.isAt hg h16
  unfold setE
  rw [if_pos hm, drop_at hp hg hs h16]
  unfold insE
  have hl : (es.take i).length = i := by rw [List.length_take]; omega
  have e : posE (es.take i ++ es.drop (i + 1)) f bs ((n.toNat : Nat) : Int) (es.take i ++ es.drop (i + 1)).length = i := by
    rw [← hn]
    have hle : i ≤ (es.take i ++ es.drop (i + 1)).length := by rw [List.length_append, hl]; omega
    refine pos_at _ i hle (fun t h ht => ?_) (fun t h ht => ?_) _ hle (Nat.le_refl _)
    · rw [List.getElem_append_left (by omega)]
      rw [List.getElem_take]
      exact neg_lt (hp.lo t (by omega) ht)
    · rw [List.length_append, hl, List.length_drop] at h
      have e2 : (es.take i ++ es.drop (i + 1))[t]'(by rw [List.length_append, hl, List.length_drop]; exact h) = es[t + 1]'(by omega) := by
        rw [List.getElem_append_right (by omega), List.getElem_drop]
        congr 1
        omega
      rw [e2]
      refine neg_gt (hp.hi (t + 1) (by omega) (by omega)) (fun h1 => ?_)
      have := (hp.only hg hs h16 (by omega) ((cmpE_zero (hg _ (List.getElem_mem (by omega))).1.len h16).1 h1)).1
      omega
  show (es.take i ++ es.drop (i + 1)).take (posE (es.take i ++ es.drop (i + 1)) f bs ((n.toNat : Nat) : Int) (es.take i ++ es.drop (i + 1)).length) ++ _ ++ (es.take i ++ es.drop (i + 1)).drop (posE (es.take i ++ es.drop (i + 1)) f bs ((n.toNat : Nat) : Int) (es.take i ++ es.drop (i + 1)).length) = _
  rw [e, List.take_left' hl, List.drop_left' hl]
end
theorem sorted_iff (es : List Ent) : SortedE es ↔ es.Pairwise (fun a b => cmpP a.f a.b (a.n : Int) b.f b.b (b.n : Int) < 0) := by
  rw [List.pairwise_iff_getElem]
  exact Iff.rfl
theorem sorted_nil : SortedE [] := fun i j hi => absurd hi (by simp)
theorem sorted_drop {es : List Ent} (hs : SortedE es) (f : Int) (bs : List Nat) (n : Int) : SortedE (dropE es f bs n) := (sorted_iff _).2 (((sorted_iff _).1 hs).filter _)
theorem sorted_take {es : List Ent} (hs : SortedE es) (k : Nat) : SortedE (es.take k) := (sorted_iff _).2 (((sorted_iff _).1 hs).sublist (List.take_sublist _ _))
theorem good_take {es : List Ent} (hg : AllGood es) (k : Nat) : AllGood (es.take k) := fun e he => hg e (List.mem_of_mem_take he)
theorem sorted_ins {es : List Ent} {f : Int} {bs : List Nat} {n : Int} {i j : Nat} (x : Int) (hs : SortedE es) (hij : i ≤ j) (lo : ∀ t (h : t < es.length), t < i → cmpE es[t] f bs n < 0) (hi : ∀ t (h : t < es.length), j ≤ t → cmpP f bs n es[t].f es[t].b (es[t].n : Int) < 0) (hn : n = ((n.toNat : Nat) : Int)) :
    SortedE (es.take i ++ [⟨f, bs, n.toNat, x⟩] ++ es.drop j) := by
  have hp := (sorted_iff _).1 hs
  rw [sorted_iff, List.append_assoc, List.pairwise_append]
  refine ⟨hp.sublist (List.take_sublist _ _), ?_, ?_⟩
  · rw [List.singleton_append, List.pairwise_cons]
    refine ⟨fun e he => ?_, hp.sublist (List.drop_sublist _ _)⟩
    obtain ⟨t, ht, rfl⟩ := List.getElem_of_mem he
    rw [List.length_drop] at ht
    rw [List.getElem_drop]
    have := hi (j + t) (by omega) (by omega)
    show cmpP f bs ((n.toNat : Nat) : Int) _ _ _ < 0
    rw [← hn]; exact this
  · intro a ha b hb
    obtain ⟨s, hs', rfl⟩ := List.getElem_of_mem ha
    rw [List.length_take] at hs'
    rw [List.getElem_take]
    rcases List.mem_append.1 hb with hb | hb
    · rw [List.mem_singleton.1 hb]
      have := lo s (by omega) (by omega)
      show cmpP _ _ _ f bs ((n.toNat : Nat) : Int) < 0
      rw [← hn]; exact this
    · obtain ⟨t, ht, rfl⟩ := List.getElem_of_mem hb
      rw [List.length_drop] at ht
      rw [List.getElem_drop]
      exact hs s (j + t) (by omega) (by omega) (by omega)
theorem sorted_set {es : List Ent} {f : Int} {bs : List Nat} {n : Int} {i : Nat} {b : Bool} (x : Int) (hp : Place es f bs n i b) (hg : AllGood es) (hs : SortedE es) (h16 : bs.length = 16) (hlt : ∀ y ∈ bs, y < 256) : SortedE (setE es f bs n x) := by
  by_cases hm : mayP f bs n = true
  · have hn := (mayP_good h16 hlt hm).2
    cases b with
    | false =>
      rw [set_none x hp hg hs h16 hlt hm]
      refine sorted_ins x hs (Nat.le_refl _) hp.lo (fun t h ht => neg_gt (hp.hi t h ht) (fun h0 => ?_)) hn
      have := hp.none hg hs h16 es[t] (List.getElem_mem h)
      rw [(cmpE_zero (hg _ (List.getElem_mem h)).1.len h16).1 h0] at this
      cases this
    | true =>
      rw [set_at x hp hg hs h16 hlt hm]
      refine sorted_ins x hs (Nat.le_succ _) hp.lo (fun t h ht => neg_gt (hp.hi t h (by omega)) (fun h0 => ?_)) hn
      have := (hp.only hg hs h16 h ((cmpE_zero (hg _ (List.getElem_mem h)).1.len h16).1 h0)).1
      omega
  · unfold setE
    rw [if_neg hm]
    exact hs
end Go.Proofs.YtgbajagacmfcmaaDoor
/- Contract of slices.Delete of one entry. -/
namespace Go.Proofs.YtgbajagacmfcmaaDoor
open Go.RowKit
set_option linter.unusedVariables false
set_option maxRecDepth 20000

/-- The block of a row. -/
def blkL (v : Value) : List Nat := v.ownBlock.toList
end Go.Proofs.YtgbajagacmfcmaaDoor
/- Contract of slices.Insert of one entry. -/
namespace Go.Proofs.YtgbajagacmfcmaaDoor
open Go.RowKit
set_option linter.unusedVariables false
set_option maxRecDepth 20000

theorem flatE_single (e : Ent) : flatE [e] = e.L := by simp [flatE]
theorem good_single {e : Ent} (h : e.Good) : AllGood [e] := fun x hx => by rw [List.mem_singleton.1 hx]; exact h
/-- What an insertion leaves. -/
def InsE (v : Value) (es : List Ent) (w : World) (e : Ending) (w' : World) : Prop := ∃ v', e = .returned v' ∧ RowT w' 0 v' es ∧ Foot (blkL v) (blkL v') w w'
set_option maxRecDepth 100000 in
set_option maxHeartbeats 1000000 in
theorem insert_end (v : Value) (es : List Ent) (e : Ent) (vb vc : Nat) (w : World) (hR : RowT w 0 v es) (he : e.Good) (hle : es.length ≤ 999) (hv : w.rangeAt vb 0 e.L) :
    Calls Tryd.prog 57 #[v, .int .i64 (es.length : Int), .slice (some ⟨vb, 0, none⟩) 1 vc] w (InsE v (es ++ [e]) w) := by
  have HR := Lib.hid hR
  have HM : Hid (1 = [e].length) := Lib.hid rfl
  have HV : Hid (w.rangeAt vb 0 (flatE [e])) := Lib.hid (by rw [flatE_single]; exact hv)
  have HY := Lib.hid (good_single he)
  have HL : Hid (es.length + [e].length ≤ 1000) := Lib.hid (by simp; omega)
  have HB : Hid (0 ≤ w.heap.size) := Lib.hid (Nat.zero_le _)
  have HFO : Hid (∀ v' w', w.grownBy w' v.ownBlock → (v'.ownBlock = v.ownBlock ∨ v'.ownBlock = some w.heap.size) → Foot (blkL v) (blkL v') w w') := Lib.hid (fun v' w' hg ho => ⟨hg.os, hg.tape, hg.output, hg.size, fun k hk hn => hg.block k hk (fun e => hn (by unfold blkL; rw [← e]; simp)), fun k hk => by
    unfold blkL at hk ⊢
    rcases ho with e | e
    · rw [e] at hk; exact .inl hk
    · rw [e] at hk; simp at hk; exact .inr (by omega)⟩)
  rcases hR.form with ⟨rfl, rfl⟩ | ⟨g, cap, rfl, _, hg, hc, hmx, hrg⟩
  · clear hR hv he
    go_enter Tryd.func57, Tryd.ntmps57
    go_wp2_with (refine append_entsT HR _ _ rfl rfl rfl [e] rfl HM HV HY HL HB (fun v' w' H1 H2 H3 => ?_))
    go_ret
    exact ⟨v', rfl, H1.out, HFO.out _ _ H2.out H3.out⟩
  · clear hR hv he hrg
    have hm : maxLen ≤ 9223372036854775807 := by unfold maxLen; omega
    obtain ⟨N, hN⟩ : ∃ N, es.length = N := ⟨_, rfl⟩
    rw [hN] at HR HL HFO hc hle ⊢
    have HR2 : Hid (RowT w 0 (.slice (some ⟨g, 0, none⟩) N cap) es) := HR
    have hd : ((N : Int) == (N : Int)) = true := by simp
    have HN := Lib.hid hN
    clear hN HR
    have HL2 : Hid (es.length + [e].length ≤ 1000) := Lib.hid (by rw [HN.out]; exact HL.out)
    by_cases hcp : cap = N
    · subst hcp
      go_enter Tryd.func57, Tryd.ntmps57
      go_wp2_with (refine append_entsT HR2 _ _ rfl rfl rfl [e] rfl HM HV HY HL2 HB (fun v' w' H1 H2 H3 => ?_))
      go_ret
      exact ⟨v', rfl, H1.out, HFO.out _ _ H2.out H3.out⟩
    · go_enter Tryd.func57, Tryd.ntmps57
      go_wp2_with (refine append_entsT HR2 _ _ rfl rfl rfl [e] rfl HM HV HY HL2 HB (fun v' w' H1 H2 H3 => ?_))
      go_ret
      exact ⟨v', rfl, H1.out, HFO.out _ _ H2.out H3.out⟩
theorem sizeT (w : World) : (Go.sizeOf 36).run Tryd.prog w = .ok 19 w := by
  obtain ⟨i0, hi0, hz0, hz1, hz2⟩ := info_parts infoT
  simp [Go.sizeOf, typeInfo, hi0, hz1]
/-- A fresh argument does not overlap a row. -/
theorem overlaps_no (w : World) (g vb vc o lb cb c1 c2 : Nat) (hne : vb ≠ g) (hv : Blk w vb c1) (hg : Blk w g c2) (h2 : c2 ≠ 0) :
    (callFunc 69 #[.slice (some ⟨vb, 0, none⟩) 1 vc, .slice (some ⟨g, o, none⟩) lb cb]).run Tryd.prog w = .ok (.value (.bool false)) w := by
  obtain ⟨cur1, a1, a2⟩ := hv
  obtain ⟨cur2, b1, b2⟩ := hg
  rw [run_callFunc_extern Tryd.func69 (by kernel_rfl) (by kernel_rfl) (by kernel_rfl) (e := Extern.SlicesOverlaps.overlaps #[22, 22] #[4]) (by kernel_rfl),
    Lib.run_overlaps_apart w 22 4 36 Tryd.underlying22 19 sizeT ⟨vb, 0, none⟩ ⟨g, o, none⟩ 1 vc lb cb hne 36 36 cur1.size cur2.size (by simp [World.shape?, a1]) (by simp [World.shape?, b1]) (by omega) (by simp [World.frozen?, a1]) (by simp [World.frozen?, a1])]
  rfl
set_option maxRecDepth 100000 in
set_option maxHeartbeats 1000000 in
theorem insert_shift (g cap : Nat) (es : List Ent) (i : Nat) (e : Ent) (vb vc : Nat) (w : World) (hb : Blk w g (cap * 19)) (hc : es.length + 1 ≤ cap) (hm : cap ≤ maxLen) (hr : w.rangeAt g 0 (flatE es)) (hg : AllGood es) (hle : es.length ≤ 999) (hi : i < es.length) (he : e.Good) (hv : w.rangeAt vb 0 e.L) (hvb : Blk w vb 19) (hne : vb ≠ g) :
    Calls Tryd.prog 57 #[.slice (some ⟨g, 0, none⟩) es.length cap, .int .i64 (i : Int), .slice (some ⟨vb, 0, none⟩) 1 vc] w (InsE (.slice (some ⟨g, 0, none⟩) es.length cap) (es.take i ++ [e] ++ es.drop i) w) := by
  have hlen : (es.take i ++ [e] ++ es.drop i).length = es.length + 1 := by simp; omega
  have hgd : AllGood (es.drop i) := fun e he => hg e (List.mem_of_mem_drop he)
  have hgt : AllGood (es.take i) := fun e he => hg e (List.mem_of_mem_take he)
  have hfl : (flatE (es.drop i)).length = (es.length - i) * 19 := by rw [flatE_len _ hgd, List.length_drop]
  have hft : (flatE (es.take i)).length = i * 19 := by rw [flatE_len _ hgt, List.length_take, Nat.min_eq_left (by omega)]
  have heL : e.L.length = 19 := Ent.L_len e he.1.len
  have heO : ∀ u ∈ e.L, u.oneCell' = true := by have := flatE_one [e] (good_single he); rw [flatE_single] at this; exact this
  have hbD : Blk w.drew g (cap * 19) := hb
  have HFIN : Hid (RowT ((w.drew.setCells g ((i + 1) * 19) (flatE (es.drop i))).setCells g (i * 19) e.L) 0 (.slice (some ⟨g, 0, none⟩) (es.length + 1) cap) (es.take i ++ [e] ++ es.drop i)) := Lib.hid (by
    have := rowT_of (w := (w.drew.setCells g ((i + 1) * 19) (flatE (es.drop i))).setCells g (i * 19) e.L) (g := g) (cap := cap) (es := es.take i ++ [e] ++ es.drop i) (Blk.setCells g _ _ _ (Blk.setCells g _ _ _ hbD)) (by omega) hm ?_ (fun x hx => by
      rcases List.mem_append.1 hx with hx | hx
      · rcases List.mem_append.1 hx with hx | hx
        · exact hgt x hx
        · rw [List.mem_singleton.1 hx]; exact he
      · exact hgd x hx) (by omega)
    · rw [hlen] at this; exact this
    · have h1 : w.drew.rangeAt g 0 (flatE (es.take i)) := cell_take hr i
      have h2 := World.rangeAt_setCells_same w.drew g ((i + 1) * 19) (flatE (es.drop i)) (hbD.there _ _ (by rw [hfl]; omega))
      have h3 := World.rangeAt_setCells_apart h1 g ((i + 1) * 19) (flatE (es.drop i)) (.inr (.inl (by rw [hft]; omega)))
      have h4 := World.rangeAt_setCells_apart h3 g (i * 19) e.L (.inr (.inl (by rw [hft]; omega)))
      have h5 := World.rangeAt_setCells_apart h2 g (i * 19) e.L (.inr (.inr (by rw [heL]; omega)))
      have h6 := World.rangeAt_setCells_same (w.drew.setCells g ((i + 1) * 19) (flatE (es.drop i))) g (i * 19) e.L (Blk.there (Blk.setCells g _ _ _ hbD) _ _ (by rw [heL]; omega))
      rw [flatE_append, flatE_append, flatE_single]
      refine range_append (range_append h4 (by rw [hft, Nat.zero_add]; exact h6)) ?_
      rw [List.length_append, hft, heL, show 0 + (i * 19 + 19) = (i + 1) * 19 by omega]
      exact h5)
  have HFT : Hid (Foot [g] [g] w ((w.drew.setCells g ((i + 1) * 19) (flatE (es.drop i))).setCells g (i * 19) e.L)) := Lib.hid (((Foot.ofBelow [g] (Below.refl _ _).drew).trans (foot_cells g _ _)).trans (foot_cells g _ _))
  have HC1 : ∀ ty dl dc sl sc, Hid (es.length - i = Nat.min sl dl → (Builtin.copy_ #[22, 22] ty #[.slice (some ⟨g, (i + 1) * 19, none⟩) dl dc, .slice (some ⟨g, i * 19, none⟩) sl sc]).run Tryd.prog w.drew = .ok (goInt ((es.length - i : Nat) : Int)) (w.drew.setCells g ((i + 1) * 19) (flatE (es.drop i)))) := fun ty dl dc sl sc => Lib.hid (fun hmin =>
    copyT w.drew ty g ((i + 1) * 19) dl dc ⟨g, i * 19, none⟩ sl sc (es.length - i) (flatE (es.drop i)) hmin hfl (fun j v hj => by rw [Addr.add_mid]; exact cell_drop hr hg i (by omega) j v hj) (hbD.there _ _ (by omega)) (flatE_one _ hgd))
  have HC2 : ∀ ty dl dc, Hid (1 = Nat.min 1 dl → (Builtin.copy_ #[22, 22] ty #[.slice (some ⟨g, i * 19, none⟩) dl dc, .slice (some ⟨vb, 0, none⟩) 1 vc]).run Tryd.prog (w.drew.setCells g ((i + 1) * 19) (flatE (es.drop i))) = .ok (goInt ((1 : Nat) : Int)) ((w.drew.setCells g ((i + 1) * 19) (flatE (es.drop i))).setCells g (i * 19) e.L)) := fun ty dl dc => Lib.hid (fun hmin =>
    copyT _ ty g (i * 19) dl dc ⟨vb, 0, none⟩ 1 vc 1 e.L hmin (by rw [heL]) (fun j v hj => by rw [Addr.add_mid]; exact World.rangeAt_setCells_apart (w := w.drew) hv g _ _ (.inl hne) j v hj) (Blk.there (Blk.setCells g _ _ _ hbD) _ _ (by omega)) heO)
  have hov : ∀ lb cb, (callFunc 69 #[.slice (some ⟨vb, 0, none⟩) 1 vc, .slice (some ⟨g, (i + 1) * 19, none⟩) lb cb]).run Tryd.prog w = .ok (.value (.bool false)) w := fun lb cb => overlaps_no w g vb vc _ lb cb _ _ hne hvb hb (by omega)
  generalize flatE (es.drop i) = ds at *
  generalize (es.take i ++ [e] ++ es.drop i) = R at *
  generalize e.L = el at *
  clear hr hg hgd hgt hft hlen hb hbD hv hvb he
  generalize es.length = N at *
  have hmx : maxLen ≤ 9223372036854775807 := by unfold maxLen; omega
  have hd1 : ((i : Int) == (N : Int)) = false := by simp; omega
  have hd2 : decide ((cap : Int) < (N : Int) + 1) = false := by simp; omega
  have hb1 : (i : Int) ≤ (N : Int) := by omega
  have hb2 : (N : Int) + 1 ≤ (cap : Int) := by omega
  have hb3 : (i : Int) + 1 ≤ (N : Int) + 1 := by omega
  have hb4 : (0 : Int) ≤ (i : Int) + 1 := by omega
  have hb5 : (0 : Int) ≤ (N : Int) + 1 := by omega
  have hb6 : (i : Int) ≤ (N : Int) + 1 := by omega
  have ht1 : ((i : Int) + 1).toNat = i + 1 := by omega
  have ht2 : ((N : Int) + 1).toNat = N + 1 := by omega
  have hw1 : IntKind.i64.wrap ((i : Int) + 1) = (i : Int) + 1 := by rw [IntKind.wrap_i64]; omega
  have hw2 : IntKind.i64.wrap ((N : Int) + 1) = (N : Int) + 1 := by rw [IntKind.wrap_i64]; omega
  have hc1 : ¬ (cap = i) := by omega
  have hc2 : ¬ (cap = i + 1) := by omega
  go_enter Tryd.func57, Tryd.ntmps57
  go_upto_region 15 with (simp only [hov])
  refine wp_region_noPanic ?_
  refine wp_region_held_drew (S := fun _ => True) (by kernel_rfl) trivial (fun hHeld => ?_)
  refine wpAnyH_take (i := 0) (v := ?_) rfl (by kernel_rfl) (by kernel_rfl) (by kernel_rfl) (fun _ _ _ h => h) (Or.inl ⟨by rfl, ?_⟩) (by assumption) ?_
  rotate_left
  · (intro w hSw; go_simp; try (with_reducible rfl))
  try simp only [Act.put, List.getElem_toArray, List.getElem_cons_zero, List.setIfInBounds_toArray, List.set_cons_zero, List.set_cons_succ]
  refine wpAnyH_take (i := 1) (v := ?_) rfl (by kernel_rfl) (by kernel_rfl) (by kernel_rfl) (fun _ _ _ h => h) (Or.inl ⟨by rfl, ?_⟩) (by assumption) ?_
  rotate_left
  · (intro w hSw; go_simp; try (with_reducible rfl))
  try simp only [Act.put, List.getElem_toArray, List.getElem_cons_zero, List.getElem_cons_succ, List.setIfInBounds_toArray, List.set_cons_zero, List.set_cons_succ]
  refine wpAnyH_take (i := 2) (v := ?_) rfl (by kernel_rfl) (by kernel_rfl) (by kernel_rfl) (fun _ _ _ h => h) (Or.inl ⟨by rfl, ?_⟩) (by assumption) ?_
  rotate_left
  · (intro w hSw; go_simp; try (with_reducible rfl))
  try simp only [Act.put, List.getElem_toArray, List.getElem_cons_zero, List.getElem_cons_succ, List.setIfInBounds_toArray, List.set_cons_zero, List.set_cons_succ]
  refine wpAnyH_take (i := 3) (v := ?_) rfl (by kernel_rfl) (by kernel_rfl) (by kernel_rfl) (fun _ _ _ h => h) (Or.inl ⟨by rfl, ?_⟩) (by assumption) ?_
  rotate_left
  · (intro w hSw; go_simp; try (with_reducible rfl))
  try simp only [Act.put, List.getElem_toArray, List.getElem_cons_zero, List.getElem_cons_succ, List.setIfInBounds_toArray, List.set_cons_zero, List.set_cons_succ]
  refine wpAnyH_take (i := 4) (v := ?_) rfl (by kernel_rfl) (by kernel_rfl) (by kernel_rfl) (fun _ _ _ h => h) (Or.inl ⟨by rfl, ?_⟩) (by assumption) ?_
  rotate_left
  · (intro w hSw; go_simp; try (with_reducible rfl))
  try simp only [Act.put, List.getElem_toArray, List.getElem_cons_zero, List.getElem_cons_succ, List.setIfInBounds_toArray, List.set_cons_zero, List.set_cons_succ]
  refine wpAnyH_take (i := 5) (v := ?_) rfl (by kernel_rfl) (by kernel_rfl) (by kernel_rfl) (fun _ _ _ h => h) (Or.inl ⟨by rfl, ?_⟩) (by assumption) ?_
  rotate_left
  · (intro w hSw; go_simp; try (with_reducible rfl))
  try simp only [Act.put, List.getElem_toArray, List.getElem_cons_zero, List.getElem_cons_succ, List.setIfInBounds_toArray, List.set_cons_zero, List.set_cons_succ]
  refine wpAnyH_take (i := 6) (v := ?_) rfl (by kernel_rfl) (by kernel_rfl) (by kernel_rfl) (fun _ _ _ h => h) (Or.inl ⟨by rfl, ?_⟩) (by assumption) ?_
  rotate_left
  · (intro w hSw; go_simp; try (with_reducible rfl))
  try simp only [Act.put, List.getElem_toArray, List.getElem_cons_zero, List.getElem_cons_succ, List.setIfInBounds_toArray, List.set_cons_zero, List.set_cons_succ]
  refine wpAnyH_take (i := 7) (v := ?_) rfl (by kernel_rfl) (by kernel_rfl) (by kernel_rfl) (fun _ _ _ h => h) (Or.inl ⟨by rfl, ?_⟩) (by assumption) ?_
  rotate_left
  · (intro w hSw; go_simp; try (with_reducible rfl))
  try simp only [Act.put, List.getElem_toArray, List.getElem_cons_zero, List.getElem_cons_succ, List.setIfInBounds_toArray, List.set_cons_zero, List.set_cons_succ]
  refine wpAnyH_ready (rs := [8]) (by kernel_rfl) (by simp) ?_
  refine AllReadyH.one rfl rfl (fun K2 hK2 => ?_)
  refine wp_copyT _ _ _ rfl _ _ rfl rfl ((HC1 _ _ _ _ _).out (by simp only [Nat.min_def]; split <;> omega)) ?_
  refine hK2.out _ _ trivial (fun _ => ?_)
  clear hK2 K2 HC1 hov
  try simp only [Act.put, List.getElem_toArray, List.getElem_cons_zero, List.getElem_cons_succ, List.setIfInBounds_toArray, List.set_cons_zero, List.set_cons_succ]
  refine wpAnyH_done (by kernel_rfl) ?_ _
  refine NoPanic.normal ?_
  generalize w.drew.setCells g ((i + 1) * 19) ds = V at *
  go_wp2_with (refine copy_stepT _ rfl _ _ rfl _ _ rfl rfl ((HC2 _ _ _).out (by simp only [Nat.min_def]; split <;> omega)) ?_)
  go_ret
  exact ⟨_, rfl, HFIN.out, HFT.out⟩
end Go.Proofs.YtgbajagacmfcmaaDoor
/- Contract of slices.Insert of one entry, where there is no room; all roads joined. -/
namespace Go.Proofs.YtgbajagacmfcmaaDoor
open Go.RowKit
set_option linter.unusedVariables false
set_option maxRecDepth 20000

theorem zeros_len (n : Nat) : (Builtin.zeroCells (Value.agg zE).cells n).size = n * 19 := by simp [Builtin.zeroCells, Value.cells]
theorem blk_new (w : World) (cs : Array Value) (c : Nat) (h : cs.size = c) : Blk (w.alloc (.cells cs 36)) w.heap.size c := ⟨cs, by show (w.heap.push _)[w.heap.size]? = _; simp, h⟩
set_option maxRecDepth 100000 in
set_option maxHeartbeats 400000 in
theorem insert_grow (g : Nat) (es : List Ent) (i : Nat) (e : Ent) (vb vc : Nat) (w : World) (hr : w.rangeAt g 0 (flatE es)) (hgl : g < w.heap.size) (hg : AllGood es) (hle : es.length ≤ 999) (hi : i < es.length) (he : e.Good) (hv : w.rangeAt vb 0 e.L) (hvl : vb < w.heap.size) :
    Calls Tryd.prog 57 #[.slice (some ⟨g, 0, none⟩) es.length es.length, .int .i64 (i : Int), .slice (some ⟨vb, 0, none⟩) 1 vc] w (InsE (.slice (some ⟨g, 0, none⟩) es.length es.length) (es.take i ++ [e] ++ es.drop i) w) := by
  have hlen : (es.take i ++ [e] ++ es.drop i).length = es.length + 1 := by simp; omega
  have hgd : AllGood (es.drop i) := fun e he => hg e (List.mem_of_mem_drop he)
  have hgt : AllGood (es.take i) := fun e he => hg e (List.mem_of_mem_take he)
  have hfl : (flatE (es.drop i)).length = (es.length - i) * 19 := by rw [flatE_len _ hgd, List.length_drop]
  have hft : (flatE (es.take i)).length = i * 19 := by rw [flatE_len _ hgt, List.length_take, Nat.min_eq_left (by omega)]
  have heL : e.L.length = 19 := Ent.L_len e he.1.len
  have heO : ∀ u ∈ e.L, u.oneCell' = true := by have := flatE_one [e] (good_single he); rw [flatE_single] at this; exact this
  obtain ⟨i0, hi0, hz0, hz1, hz2⟩ := info_parts infoT
  obtain ⟨C, hC⟩ : ∃ C, grownCap w (es.length + 1) es.length 36 = C := ⟨_, rfl⟩
  have hCg : es.length + 1 ≤ C := by rw [← hC]; exact grownCap_ge w _ _ _
  have hCm : C ≤ maxLen := by rw [← hC]; exact grownCap_le_maxLen w _ _ _ (by unfold maxLen; omega)
  obtain ⟨ROW, hROW⟩ : ∃ ROW : Array Value, (flatE (es.take i)).toArray ++ Builtin.zeroCells (Value.agg zE).cells (es.length + 1 - i) ++ Builtin.zeroCells (Value.agg zE).cells (C - (es.length + 1)) = ROW := ⟨_, rfl⟩
  have hRS : ROW.size = C * 19 := by rw [← hROW, Array.size_append, Array.size_append, zeros_len, zeros_len, List.size_toArray, hft]; omega
  have hRT : ∀ j u, (flatE (es.take i))[j]? = some u → ROW[j]? = some u := fun j u hu => by
    have hj : j < (flatE (es.take i)).length := (List.getElem?_eq_some_iff.1 hu).1
    rw [← hROW, Array.getElem?_append_left (by rw [Array.size_append, List.size_toArray]; omega), Array.getElem?_append_left (by rw [List.size_toArray]; exact hj)]
    simpa using hu
  have HAP : ∀ ty, Hid ((Builtin.append_ #[22, 3] ty #[.slice (some ⟨g, 0, none⟩) i es.length, .int .i64 ((es.length : Int) + 1 - (i : Int))]).run Tryd.prog w = .ok (.slice (some ⟨w.heap.size, 0, none⟩) (es.length + 1) C) (w.drew.alloc (.cells ROW 36))) := fun ty => Lib.hid (by
    have hold : (Builtin.firstCells i0.size i (.slice (some ⟨g, 0, none⟩) i es.length)).run Tryd.prog w.drew = .ok (flatE (es.take i)).toArray w.drew := by
      rw [hz1]
      exact run_firstCells_some w.drew 19 i ⟨g, 0, none⟩ i es.length (flatE (es.take i)) (by rw [hft]) (fun j v hj => by rw [Addr.add_mid]; exact cell_take hr i j v hj)
    have hk : (es.length : Int) + 1 - (i : Int) = ((es.length + 1 - i : Nat) : Int) := by omega
    have h := Lib.run_append_grow_zeros w 22 3 ty 36 i0 _ .i64 .i64 Tryd.underlying22 Tryd.underlying3 hi0 hz0 (some ⟨g, 0, none⟩) i es.length (flatE (es.take i)) hold (es.length + 1 - i) (by omega) (by rw [hz1]; decide) (by omega) (by omega) (by rw [hz2]; omega) (by rw [hz2, show i + (es.length + 1 - i) = es.length + 1 by omega]; exact growslice_fits (by omega) (by omega))
    rw [show i + (es.length + 1 - i) = es.length + 1 by omega, hC, hROW] at h
    rw [hk]
    exact h)
  have HB1 : Blk (w.drew.alloc (.cells ROW 36)) w.heap.size (C * 19) := blk_new w.drew ROW _ hRS
  have HBL : Below w.heap.size w (w.drew.alloc (.cells ROW 36)) := (Below.refl _ _).drew.alloc (Nat.le_refl _) _
  have hR1 : (w.drew.alloc (.cells ROW 36)).rangeAt w.heap.size 0 (flatE (es.take i)) := fun j u hu => by
    rw [Nat.zero_add, cell_of_row _ _ j ROW 36 (0, 0) (by show (w.heap.push _)[w.heap.size]? = _; simp)]
    exact hRT j u hu
  have hR2 := range_belowB hr HBL hgl
  have hR3 := range_belowB hv HBL hvl
  generalize w.drew.alloc (.cells ROW 36) = W1 at *
  generalize hH : w.heap.size = H at *
  have HC1 : ∀ ty dl dc, Hid (1 = Nat.min 1 dl → (Builtin.copy_ #[22, 22] ty #[.slice (some ⟨H, i * 19, none⟩) dl dc, .slice (some ⟨vb, 0, none⟩) 1 vc]).run Tryd.prog W1 = .ok (goInt ((1 : Nat) : Int)) (W1.setCells H (i * 19) e.L)) := fun ty dl dc => Lib.hid (fun hmin =>
    copyT W1 ty H (i * 19) dl dc ⟨vb, 0, none⟩ 1 vc 1 e.L hmin (by rw [heL]) (fun j v hj => by rw [Addr.add_mid]; exact hR3 j v hj) (HB1.there _ _ (by omega)) heO)
  have HC2 : ∀ ty dl dc sl sc, Hid (es.length - i = Nat.min sl dl → (Builtin.copy_ #[22, 22] ty #[.slice (some ⟨H, (i + 1) * 19, none⟩) dl dc, .slice (some ⟨g, i * 19, none⟩) sl sc]).run Tryd.prog (W1.setCells H (i * 19) e.L).drew = .ok (goInt ((es.length - i : Nat) : Int)) ((W1.setCells H (i * 19) e.L).drew.setCells H ((i + 1) * 19) (flatE (es.drop i)))) := fun ty dl dc sl sc => Lib.hid (fun hmin =>
    copyT (W1.setCells H (i * 19) e.L).drew ty H ((i + 1) * 19) dl dc ⟨g, i * 19, none⟩ sl sc (es.length - i) (flatE (es.drop i)) hmin hfl (fun j v hj => by rw [Addr.add_mid]; exact World.rangeAt_setCells_apart (cell_drop hR2 hg i (by omega)) H _ _ (.inl (by omega)) j v hj) (Blk.there (Blk.setCells H _ _ _ HB1) _ _ (by omega)) (flatE_one _ hgd))
  have HFIN : Hid (RowT ((W1.setCells H (i * 19) e.L).drew.setCells H ((i + 1) * 19) (flatE (es.drop i))) 0 (.slice (some ⟨H, 0, none⟩) (es.length + 1) C) (es.take i ++ [e] ++ es.drop i)) := Lib.hid (by
    have hbD : Blk (W1.setCells H (i * 19) e.L).drew H (C * 19) := Blk.setCells H _ _ _ HB1
    have := rowT_of (w := (W1.setCells H (i * 19) e.L).drew.setCells H ((i + 1) * 19) (flatE (es.drop i))) (g := H) (cap := C) (es := es.take i ++ [e] ++ es.drop i) (Blk.setCells H _ _ _ hbD) (by omega) hCm ?_ (fun x hx => by
      rcases List.mem_append.1 hx with hx | hx
      · rcases List.mem_append.1 hx with hx | hx
        · exact hgt x hx
        · rw [List.mem_singleton.1 hx]; exact he
      · exact hgd x hx) (by omega)
    · rw [hlen] at this; exact this
    · have h2 := World.rangeAt_setCells_same W1 H (i * 19) e.L (HB1.there _ _ (by rw [heL]; omega))
      have h3 := World.rangeAt_setCells_apart hR1 H (i * 19) e.L (.inr (.inl (by rw [hft]; omega)))
      have h4 := World.rangeAt_setCells_apart (w := (W1.setCells H (i * 19) e.L).drew) h3 H ((i + 1) * 19) (flatE (es.drop i)) (.inr (.inl (by rw [hft]; omega)))
      have h5 := World.rangeAt_setCells_apart (w := (W1.setCells H (i * 19) e.L).drew) h2 H ((i + 1) * 19) (flatE (es.drop i)) (.inr (.inl (by rw [heL]; omega)))
      have h6 := World.rangeAt_setCells_same (W1.setCells H (i * 19) e.L).drew H ((i + 1) * 19) (flatE (es.drop i)) (hbD.there _ _ (by rw [hfl]; omega))
      rw [flatE_append, flatE_append, flatE_single]
      refine range_append (range_append h4 (by rw [hft, Nat.zero_add]; exact h5)) ?_
      rw [List.length_append, hft, heL, show 0 + (i * 19 + 19) = (i + 1) * 19 by omega]
      exact h6)
  have HFT : Hid (Foot [g] [H] w ((W1.setCells H (i * 19) e.L).drew.setCells H ((i + 1) * 19) (flatE (es.drop i)))) := Lib.hid (by
    have hb : Below H w ((W1.setCells H (i * 19) e.L).drew.setCells H ((i + 1) * 19) (flatE (es.drop i))) := below_cells (Nat.le_refl _) _ _ _ ((below_cells (Nat.le_refl _) _ _ _ HBL).drew)
    exact ⟨hb.os, hb.tape, hb.output, hb.size, fun k hk _ => hb.block k (by omega), fun k hk => .inr (by simp at hk; omega)⟩)
  generalize flatE (es.drop i) = ds at *
  generalize (es.take i ++ [e] ++ es.drop i) = R at *
  generalize e.L = el at *
  clear hr hg hgd hgt hft hlen hv he HB1 HBL hR1 hR2 hR3 hRT hRS hROW hi0 hz0 hz1 hz2 hC
  generalize es.length = N at *
  have hmx : maxLen ≤ 9223372036854775807 := by unfold maxLen; omega
  have hd1 : ((i : Int) == (N : Int)) = false := by simp; omega
  have hd2 : decide ((N : Int) < (N : Int) + 1) = true := by simp; omega
  have hb1 : (i : Int) ≤ (N : Int) := by omega
  have hb3 : (i : Int) + 1 ≤ (N : Int) + 1 := by omega
  have hb4 : (0 : Int) ≤ (i : Int) + 1 := by omega
  have hb6 : (i : Int) ≤ (N : Int) + 1 := by omega
  have ht1 : ((i : Int) + 1).toNat = i + 1 := by omega
  have hw1 : IntKind.i64.wrap ((i : Int) + 1) = (i : Int) + 1 := by rw [IntKind.wrap_i64]; omega
  have hw2 : IntKind.i64.wrap ((N : Int) + 1) = (N : Int) + 1 := by rw [IntKind.wrap_i64]; omega
  have hw3 : IntKind.i64.wrap ((N : Int) + 1 - (i : Int)) = (N : Int) + 1 - (i : Int) := by rw [IntKind.wrap_i64]; omega
  have hc1 : ¬ (N = i) := by omega
  have hc2 : ¬ (C = i + 1) := by omega
  have hc3 : ¬ (C = i) := by omega
  go_enter Tryd.func57, Tryd.ntmps57
  go_upto_region 9 with fail
  go_upto_region 10 with (at_builtin; refine Lib.wpList_append_run _ rfl _ _ 22 3 rfl (.slice (some ⟨g, 0, none⟩) i N) (.int .i64 ((N : Int) + 1 - (i : Int))) rfl rfl _ _ (HAP _).out ?_)
  clear HAP
  go_upto_region 11 with (refine copy_stepT _ rfl _ _ rfl (.slice (some ⟨H, i * 19, none⟩) (N + 1 - i) (C - i)) (.slice (some ⟨vb, 0, none⟩) 1 vc) rfl rfl ((HC1 _ _ _).out (by simp only [Nat.min_def]; split <;> omega)) ?_)
  clear HC1
  generalize hV : W1.setCells H (i * 19) el = V at *
  refine wp_region_noPanic ?_
  refine wp_region_held_drew (S := fun _ => True) (by kernel_rfl) trivial (fun hHeld => ?_)
  refine wpAnyH_take (i := 0) (v := ?_) rfl (by kernel_rfl) (by kernel_rfl) (by kernel_rfl) (fun _ _ _ h => h) (Or.inl ⟨by rfl, ?_⟩) (by assumption) ?_
  rotate_left
  · (intro w hSw; go_simp; try (with_reducible rfl))
  try simp only [Act.put, List.getElem_toArray, List.getElem_cons_zero, List.setIfInBounds_toArray, List.set_cons_zero, List.set_cons_succ]
  refine wpAnyH_take (i := 1) (v := ?_) rfl (by kernel_rfl) (by kernel_rfl) (by kernel_rfl) (fun _ _ _ h => h) (Or.inl ⟨by rfl, ?_⟩) (by assumption) ?_
  rotate_left
  · (intro w hSw; go_simp; try (with_reducible rfl))
  try simp only [Act.put, List.getElem_toArray, List.getElem_cons_zero, List.getElem_cons_succ, List.setIfInBounds_toArray, List.set_cons_zero, List.set_cons_succ]
  refine wpAnyH_take (i := 2) (v := ?_) rfl (by kernel_rfl) (by kernel_rfl) (by kernel_rfl) (fun _ _ _ h => h) (Or.inl ⟨by rfl, ?_⟩) (by assumption) ?_
  rotate_left
  · (intro w hSw; go_simp; try (with_reducible rfl))
  try simp only [Act.put, List.getElem_toArray, List.getElem_cons_zero, List.getElem_cons_succ, List.setIfInBounds_toArray, List.set_cons_zero, List.set_cons_succ]
  refine wpAnyH_take (i := 3) (v := ?_) rfl (by kernel_rfl) (by kernel_rfl) (by kernel_rfl) (fun _ _ _ h => h) (Or.inl ⟨by rfl, ?_⟩) (by assumption) ?_
  rotate_left
  · (intro w hSw; go_simp; try (with_reducible rfl))
  try simp only [Act.put, List.getElem_toArray, List.getElem_cons_zero, List.getElem_cons_succ, List.setIfInBounds_toArray, List.set_cons_zero, List.set_cons_succ]
  refine wpAnyH_take (i := 4) (v := ?_) rfl (by kernel_rfl) (by kernel_rfl) (by kernel_rfl) (fun _ _ _ h => h) (Or.inl ⟨by rfl, ?_⟩) (by assumption) ?_
  rotate_left
  · (intro w hSw; go_simp; try (with_reducible rfl))
  try simp only [Act.put, List.getElem_toArray, List.getElem_cons_zero, List.getElem_cons_succ, List.setIfInBounds_toArray, List.set_cons_zero, List.set_cons_succ]
  refine wpAnyH_take (i := 5) (v := ?_) rfl (by kernel_rfl) (by kernel_rfl) (by kernel_rfl) (fun _ _ _ h => h) (Or.inl ⟨by rfl, ?_⟩) (by assumption) ?_
  rotate_left
  · (intro w hSw; go_simp; try (with_reducible rfl))
  try simp only [Act.put, List.getElem_toArray, List.getElem_cons_zero, List.getElem_cons_succ, List.setIfInBounds_toArray, List.set_cons_zero, List.set_cons_succ]
  refine wpAnyH_take (i := 6) (v := ?_) rfl (by kernel_rfl) (by kernel_rfl) (by kernel_rfl) (fun _ _ _ h => h) (Or.inl ⟨by rfl, ?_⟩) (by assumption) ?_
  rotate_left
  · (intro w hSw; go_simp; try (with_reducible rfl))
  try simp only [Act.put, List.getElem_toArray, List.getElem_cons_zero, List.getElem_cons_succ, List.setIfInBounds_toArray, List.set_cons_zero, List.set_cons_succ]
  refine wpAnyH_take (i := 7) (v := ?_) rfl (by kernel_rfl) (by kernel_rfl) (by kernel_rfl) (fun _ _ _ h => h) (Or.inl ⟨by rfl, ?_⟩) (by assumption) ?_
  rotate_left
  · (intro w hSw; go_simp; try (with_reducible rfl))
  try simp only [Act.put, List.getElem_toArray, List.getElem_cons_zero, List.getElem_cons_succ, List.setIfInBounds_toArray, List.set_cons_zero, List.set_cons_succ]
  refine wpAnyH_ready (rs := [8]) (by kernel_rfl) (by simp) ?_
  refine AllReadyH.one rfl rfl (fun K2 hK2 => ?_)
  refine wp_copyT _ _ _ rfl _ _ rfl rfl ((HC2 _ _ _ _ _).out (by simp only [Nat.min_def]; split <;> omega)) ?_
  refine hK2.out _ _ trivial (fun _ => ?_)
  clear hK2 K2 HC2 hV
  try simp only [Act.put, List.getElem_toArray, List.getElem_cons_zero, List.getElem_cons_succ, List.setIfInBounds_toArray, List.set_cons_zero, List.set_cons_succ]
  refine wpAnyH_done (by kernel_rfl) ?_ _
  refine NoPanic.normal ?_
  generalize V.drew.setCells H ((i + 1) * 19) ds = V2 at *
  go_wp2_with fail
  go_ret
  exact ⟨_, rfl, HFIN.out, HFT.out⟩
/-- An entry put in at its place. -/
theorem insert_any (v : Value) (es : List Ent) (i : Nat) (e : Ent) (vb vc : Nat) (w : World) (hR : RowT w 0 v es) (hi : i ≤ es.length) (he : e.Good) (hle : es.length ≤ 999) (hv : w.rangeAt vb 0 e.L) (hvb : Blk w vb 19) (hne : ∀ g, v.ownBlock = some g → vb ≠ g) :
    Calls Tryd.prog 57 #[v, .int .i64 (i : Int), .slice (some ⟨vb, 0, none⟩) 1 vc] w (InsE v (es.take i ++ [e] ++ es.drop i) w) := by
  by_cases hil : i < es.length
  · rcases hR.blk with ⟨rfl, rfl⟩ | ⟨g, cap, rfl, _, hb, hc, hm, hr⟩
    · exact absurd hil (by simp)
    · by_cases hcap : es.length + 1 ≤ cap
      · exact insert_shift g cap es i e vb vc w hb hcap hm hr hR.2.1 hle hil he hv hvb (hne g rfl)
      · obtain rfl : cap = es.length := by omega
        exact insert_grow g es i e vb vc w hr hb.lt hR.2.1 hle hil he hv hvb.lt
  · obtain rfl : i = es.length := by omega
    rw [List.take_length, List.drop_length, List.append_nil]
    exact insert_end v es e vb vc w hR he hle hv
end Go.Proofs.YtgbajagacmfcmaaDoor
/- Contract of Table.place; Get, Len and Steps of the table. -/
namespace Go.Proofs.YtgbajagacmfcmaaDoor
open Go.RowKit
set_option linter.unusedVariables false
set_option maxRecDepth 20000

theorem Foot.none {w w' : World} (h : Foot [] [] w w') : Below w.heap.size w w' := h.below (fun k hk => by cases hk) (Nat.le_refl _)
theorem compare_cmps (f : Int) (bs : List Nat) (n : Int) (es : List Ent) (hg : AllGood es) (h16 : bs.length = 16) (hlt : ∀ y ∈ bs, y < 256) : Cmps 68 #[] f bs n es [] (fun _ _ => True) := by
  intro c W e hc he _
  have hG := hg e he
  have := tabCompare_any e.f e.b (e.n : Int) e.v f bs n W hG.1.len h16 hG.1.lt hlt
  simp only [Array.empty_append]
  exact this.mono fun x w' ⟨h1, h2⟩ => ⟨h1, trivial, Foot.ofBelow [] h2⟩
set_option maxRecDepth 100000 in
set_option maxHeartbeats 2000000 in
theorem place_any (G : Nat) (v : Value) (st : Int) (es : List Ent) (f : Int) (bs : List Nat) (n : Int) (w : World) (hT : Tab w G v st) (hR : RowT w 0 v es) (hs : SortedE es) (h16 : bs.length = 16) (hlt : ∀ y ∈ bs, y < 256) :
    Calls Tryd.prog 56 #[.pointer (some ⟨G, 0, none⟩), prefV f bs n] w fun e w' => ∃ (i : Nat) (b : Bool), e = .returned (.tuple #[.int .i64 (i : Int), .bool b]) ∧ Place es f bs n i b ∧ Below w.heap.size w w' := by
  have hgood := hR.2.1
  have hle := hR.2.2
  have H16 := Lib.hid h16
  have HS : ∀ W, Hid (RowT W 0 v es → Calls Tryd.prog 64 #[v, prefV f bs n, .func (.func 68) #[] #[]] W fun e w' => ∃ (i : Nat) (b : Bool), e = .returned (.tuple #[.int .i64 (i : Int), .bool b]) ∧ Place es f bs n i b ∧ Below W.heap.size W w') := fun W => Lib.hid (fun hr => by
    rcases hr.form with ⟨rfl, rfl⟩ | ⟨g, cap, rfl, _, hg, hc, _, hrg⟩
    · exact (search_nil _ f bs n W h16).mono fun e w' ⟨h1, h2⟩ => ⟨0, false, h1, place_nil f bs n, h2⟩
    · exact (search_any 68 #[] (enters_of Tryd.func68 (by kernel_rfl) rfl) f bs n g cap es [] (fun _ _ => True) W hrg hg (by simp) (by simp) hle hgood hs h16 (compare_cmps f bs n es hgood h16 hlt) (fun _ _ _ _ _ => trivial) trivial).mono fun e w' ⟨i, b, c, h1, h2, _, _, h3⟩ => ⟨i, b, h1, h2, h3.none⟩)
  obtain ⟨cs, ecs, HP, HB⟩ := pref_boxed f bs n w h16
  rw [ecs]
  have HT := Lib.hid (hT.below HB.out)
  have HR := Lib.hid (hR.below HB.out)
  clear ecs h16 hlt hT hR hs
  go_enter Tryd.func56, Tryd.ntmps56
  go_upto_region 1 with fail
  generalize (w.alloc (.cells cs 27)) = W at *
  obtain ⟨L, hL⟩ : ∃ L, [(G, 0, [v]), (w.heap.size, 0, prefL f bs n)] = L := ⟨_, rfl⟩
  have HK : Hid (HeldL L W.drew) := Lib.hid (by
    rw [← hL]; intro x hx
    rcases List.mem_cons.1 hx with rfl | hx
    · intro j u hu
      cases j with
      | zero => rw [Nat.add_zero]; rw [← show v = u from by simpa using hu]; exact HT.out.row
      | succ j => simp at hu
    · rw [List.mem_singleton.1 hx]; exact HP.out.range)
  have MP : Hid (InL L w.heap.size 0 (prefL f bs n)) := Lib.hid (fun W h => h.get (by rw [← hL]; simp))
  have C0 : Hid (∀ w, HeldL L w → w.cell? ⟨G, 0, none⟩ = some v) := Lib.hid (fun w h => (h.get (b := G) (o := 0) (cs := [v]) (by rw [← hL]; simp)) 0 v rfl)
  have HKN : Hid (∀ W', Below W.drew.heap.size W.drew W' → HeldL L W') := Lib.hid (fun W' hb => by
    rw [← hL]; intro x hx
    have hK := HK.out
    rw [← hL] at hK
    rcases List.mem_cons.1 hx with rfl | hx
    · exact range_belowB (hK _ (by simp)) hb HT.out.lt
    · rw [List.mem_singleton.1 hx]; exact range_belowB (w := W.drew) HP.out.range hb HP.out.addr.lt)
  have HRD := Lib.hid ((HS W.drew).out (HR.out.below (Below.refl _ _).drew))
  clear hL HS HR HP
  refine wp_region_noPanic ?_
  refine wp_region_held_drew (S := HeldL L) (by kernel_rfl) HK.out (fun hHeld => ?_)
  clear HK
  refine wpAnyH_take (i := 0) (v := ?_) rfl (by kernel_rfl) (by kernel_rfl) (by kernel_rfl) (fun _ _ _ h => h) (Or.inl ⟨by rfl, ?_⟩) (by assumption) ?_
  rotate_left
  · (intro w hSw; go_simp; try (with_reducible rfl))
  try simp only [Act.put, List.getElem_toArray, List.getElem_cons_zero, List.setIfInBounds_toArray, List.set_cons_zero, List.set_cons_succ]
  refine wpAnyH_take (i := 1) (v := ?_) rfl (by kernel_rfl) (by kernel_rfl) (by kernel_rfl) (fun _ _ _ h => h) (Or.inl ⟨by rfl, ?_⟩) (by assumption) ?_
  rotate_left
  · (intro w hSw; go_simp; try (with_reducible rfl))
  try simp only [Act.put, List.getElem_toArray, List.getElem_cons_zero, List.getElem_cons_succ, List.setIfInBounds_toArray, List.set_cons_zero, List.set_cons_succ]
  refine wpAnyH_take (i := 2) (v := ?_) rfl (by kernel_rfl) (by kernel_rfl) (by kernel_rfl) (fun _ _ _ h => h) (Or.inl ⟨by rfl, ?_⟩) (by assumption) ?_
  rotate_left
  · (intro w hSw; go_simp; try (with_reducible rfl))
  try simp only [Act.put, List.getElem_toArray, List.getElem_cons_zero, List.getElem_cons_succ, List.setIfInBounds_toArray, List.set_cons_zero, List.set_cons_succ]
  refine wpAnyH_take (i := 3) (v := ?_) rfl (by kernel_rfl) (by kernel_rfl) (by kernel_rfl) (fun _ _ _ h => h) (Or.inl ⟨by rfl, ?_⟩) (by assumption) ?_
  rotate_left
  · (intro w hSw; have hc0 := C0.out w hSw; go_simp; try (with_reducible rfl))
  try simp only [Act.put, List.getElem_toArray, List.getElem_cons_zero, List.getElem_cons_succ, List.setIfInBounds_toArray, List.set_cons_zero, List.set_cons_succ]
  refine wpAnyH_take (i := 4) rfl (by kernel_rfl) (by kernel_rfl) (by kernel_rfl) (fun _ _ _ h => h) (yields_pref_l H16 MP (by rfl) _ rfl rfl) (by assumption) ?_
  try simp only [Act.put, List.getElem_toArray, List.getElem_cons_zero, List.getElem_cons_succ, List.setIfInBounds_toArray, List.set_cons_zero, List.set_cons_succ]
  refine wpAnyH_ready (rs := [5]) (by kernel_rfl) (by simp) ?_
  refine AllReadyH.cons rfl (fun K hK => ?_) AllReadyH.nil
  go_simp
  refine HRD.out.mono ?_
  rintro e w6 ⟨i, b, rfl, hp, hb6⟩
  have HPL := Lib.hid hp
  have HB6 := Lib.hid (chain HB.out (chain (Below.refl _ _).drew hb6))
  have hS6 := HKN.out w6 hb6
  clear hp hb6 HRD HKN
  go_wp2_with fail
  refine hK.out _ _ hS6 (fun hHeld6 => ?_)
  clear hK K
  try simp only [Act.put, List.getElem_toArray, List.getElem_cons_zero, List.getElem_cons_succ, List.setIfInBounds_toArray, List.set_cons_zero, List.set_cons_succ]
  refine wpAnyH_take (i := 6) (v := ?_) rfl (by kernel_rfl) (by kernel_rfl) (by kernel_rfl) (fun _ _ _ h => h) (Or.inl ⟨by rfl, ?_⟩) (by assumption) ?_
  rotate_left
  · (intro w hSw; go_simp; try (with_reducible rfl))
  try simp only [Act.put, List.getElem_toArray, List.getElem_cons_zero, List.getElem_cons_succ, List.setIfInBounds_toArray, List.set_cons_zero, List.set_cons_succ]
  refine wpAnyH_take (i := 7) (v := ?_) rfl (by kernel_rfl) (by kernel_rfl) (by kernel_rfl) (fun _ _ _ h => h) (Or.inl ⟨by rfl, ?_⟩) (by assumption) ?_
  rotate_left
  · (intro w hSw; go_simp; try (with_reducible rfl))
  try simp only [Act.put, List.getElem_toArray, List.getElem_cons_zero, List.getElem_cons_succ, List.setIfInBounds_toArray, List.set_cons_zero, List.set_cons_succ]
  refine wpAnyH_take (i := 8) (v := ?_) rfl (by kernel_rfl) (by kernel_rfl) (by kernel_rfl) (fun _ _ _ h => h) (Or.inl ⟨by rfl, ?_⟩) (by assumption) ?_
  rotate_left
  · (intro w hSw; go_simp; try (with_reducible rfl))
  try simp only [Act.put, List.getElem_toArray, List.getElem_cons_zero, List.getElem_cons_succ, List.setIfInBounds_toArray, List.set_cons_zero, List.set_cons_succ]
  refine wpAnyH_take (i := 9) (v := ?_) rfl (by kernel_rfl) (by kernel_rfl) (by kernel_rfl) (fun _ _ _ h => h) (Or.inl ⟨by rfl, ?_⟩) (by assumption) ?_
  rotate_left
  · (intro w hSw; go_simp; try (with_reducible rfl))
  try simp only [Act.put, List.getElem_toArray, List.getElem_cons_zero, List.getElem_cons_succ, List.setIfInBounds_toArray, List.set_cons_zero, List.set_cons_succ]
  refine wpAnyH_done (by kernel_rfl) ?_ _
  refine NoPanic.normal ?_
  go_wp2_with fail
  go_ret2
  exact ⟨i, b, rfl, HPL.out, HB6.out⟩
theorem tabLen_any (G : Nat) (v : Value) (st : Int) (es : List Ent) (w : World) (hT : Tab w G v st) (hR : RowT w 0 v es) :
    Calls Tryd.prog 13 #[.pointer (some ⟨G, 0, none⟩)] w fun e w' => e = .returned (.int .i64 (es.length : Int)) ∧ w' = w := by
  have hc := hT.row
  rcases hR.form with ⟨rfl, rfl⟩ | ⟨g, cap, rfl, _⟩
  · go_enter Tryd.func13, Tryd.ntmps13
    go_wp2_with fail
    go_ret
    exact ⟨rfl, rfl⟩
  · go_enter Tryd.func13, Tryd.ntmps13
    go_wp2_with fail
    go_ret
    exact ⟨rfl, rfl⟩
end Go.Proofs.YtgbajagacmfcmaaDoor
/- Contract of cidr.withBit. -/
namespace Go.Proofs.YtgbajagacmfcmaaDoor
open Go.RowKit
set_option linter.unusedVariables false
set_option maxRecDepth 20000

theorem or_val_all : ∀ x : Fin 256, ∀ r : Fin 8, bits .or .u8 ((x.val : Nat) : Int) (128 / 2 ^ r.val) = ((x.val ||| 2 ^ (7 - r.val) : Nat) : Int) := by decide +kernel
theorem or_val (x r : Nat) (hx : x < 256) (hr : r ≤ 7) : bits .or .u8 (x : Int) (128 / 2 ^ r) = ((x ||| 2 ^ (7 - r) : Nat) : Int) := or_val_all ⟨x, hx⟩ ⟨r, by omega⟩
set_option maxRecDepth 100000 in
set_option maxHeartbeats 1000000 in
theorem withBit_any (f : Int) (bs : List Nat) (i : Nat) (w : World) (h16 : bs.length = 16) (hlt : ∀ x ∈ bs, x < 256) (hi : i < 128) :
    Calls Tryd.prog 75 #[addrV f bs, .int .i64 (i : Int)] w fun e w' => e = .returned (addrV f (setB bs i)) ∧ Below w.heap.size w w' := by
  have HLS : Hid ((setB bs i).length = 16) := Lib.hid (by rw [setB_len, h16])
  obtain ⟨cs, ecs, HA, HB⟩ := addr_boxed f bs w h16
  have HR := addr_zeroed (w.alloc (.cells cs 25))
  rw [heap_alloc] at HR
  have HRH := Lib.hid HR
  have HA1 := Lib.hid (HA.out.alloc (.cells zA 25))
  have HB1 := Lib.hid (HB.out.alloc HB.out.size (.cells zA 25))
  rw [ecs]
  have hq16 : i / 8 < 16 := by omega
  have hcell := HA1.out.cells (i / 8) hq16
  have hliv := HA1.out.live (1 + i / 8) (by omega)
  have HSV := fun v => Lib.hid (HA1.out.set (i := i / 8) hq16 v)
  have hx := getD_lt hlt (i / 8)
  have HE : Hid (setB bs i = bs.set (i / 8) (bs.getD (i / 8) 0 ||| 2 ^ (7 - i % 8))) := Lib.hid rfl
  generalize bs.getD (i / 8) 0 = x at *
  generalize setB bs i = R at *
  obtain ⟨q, eq, hq2⟩ : ∃ q : Nat, i / 8 = q ∧ (i : Int) / 8 = (q : Int) := ⟨_, rfl, by omega⟩
  obtain ⟨r, er, hr2⟩ : ∃ r : Nat, i % 8 = r ∧ (i : Int) % 8 = (r : Int) := ⟨_, rfl, by omega⟩
  have hr : r ≤ 7 := by omega
  rw [eq] at hcell hq16 hliv HSV HE
  rw [er] at HE
  have q16 : (q : Int) < 16 := by omega
  have d1 : (i : Int).tdiv 8 = (q : Int) := by rw [Int.tdiv_eq_ediv_of_nonneg (by omega)]; exact hq2
  have d2 : (i : Int).tmod 8 = (r : Int) := by rw [Int.tmod_eq_emod_of_nonneg (by omega)]; exact hr2
  clear ecs h16 hlt HA HB HR eq er hq2 hr2
  go_enter Tryd.func75, Tryd.ntmps75
  go_upto_region 1 with fail
  generalize ((w.alloc (.cells cs 25)).alloc (.cells zA 25)) = W at *
  go_region
  rw [or_val x r hx hr]
  have HA2 := Lib.hid ((HSV (x ||| 2 ^ (7 - r))).out.below (Below.refl _ _).drew)
  rw [← HE.out] at HA2
  have HR2 := Lib.hid ((HRH.out.other (G' := w.heap.size) (i := 1 + q) (by omega) (.int .u8 ((x ||| 2 ^ (7 - r) : Nat) : Int))).below (Below.refl _ _).drew)
  have HB2 := Lib.hid ((HB1.out.setCell (p := ⟨w.heap.size, 1 + q, none⟩) (Nat.le_refl _) (.int .u8 ((x ||| 2 ^ (7 - r) : Nat) : Int))).drew)
  generalize (W.setCell ⟨w.heap.size, 1 + q, none⟩ (.int .u8 ((x ||| 2 ^ (7 - r) : Nat) : Int))).drew = W2 at *
  clear HA1 HB1 HRH HSV hcell hliv
  go_wp2_with (first | refine load_addr_g HA2 _ rfl rfl rfl ?_ | (refine store_addr HR2 _ _ HLS rfl rfl rfl rfl (fun W HW HA => ?_)))
  refine bodyPost_ret (v := addrV f R) (results_addr Tryd.results75 rfl HA.out) rfl ⟨rfl, by rw [HW.out]; exact below_cells (by omega) _ _ _ HB2.out⟩
end Go.Proofs.YtgbajagacmfcmaaDoor
/- Contract of addr.Bits. -/
namespace Go.Proofs.YtgbajagacmfcmaaDoor
open Go.RowKit
set_option linter.unusedVariables false
set_option maxRecDepth 20000

set_option maxRecDepth 100000 in
set_option maxHeartbeats 1000000 in
theorem addrBits_any (f : Int) (bs : List Nat) (w : World) (h16 : bs.length = 16) :
    Calls Tryd.prog 63 #[addrV f bs] w fun e w' => e = .returned (.int .i64 ((bitsN f : Nat) : Int)) ∧ Below w.heap.size w w' := by
  obtain ⟨cs, ecs, HA, HB⟩ := addr_boxed f bs w h16
  rw [ecs]
  clear ecs h16
  go_enter Tryd.func63, Tryd.ntmps63
  go_upto_region 1 with fail
  generalize (w.alloc (.cells cs 25)) = W at *
  have hfam := HA.out.fam
  by_cases h4 : f = 4
  · subst h4
    go_wp2_with fail
    go_ret
    exact ⟨rfl, HB.out⟩
  · by_cases h6 : f = 6
    · subst h6
      go_wp2_with fail
      go_ret
      exact ⟨rfl, HB.out⟩
    · have HE : Hid (bitsN f = 0) := Lib.hid (by unfold bitsN; rw [if_neg h4, if_neg h6])
      have g4 : (f == 4) = false := by simp [h4]
      have g6 : (f == 6) = false := by simp [h6]
      go_wp2_with fail
      go_ret
      exact ⟨by rw [HE.out]; rfl, HB.out⟩
end Go.Proofs.YtgbajagacmfcmaaDoor
/- Contract of addr.Bit. -/
namespace Go.Proofs.YtgbajagacmfcmaaDoor
open Go.RowKit
set_option linter.unusedVariables false
set_option maxRecDepth 20000

theorem bit_and_all : ∀ y : Fin 256, bits .and .i64 (wrap64 ((y.val : Nat) : Int)) 1 = ((y.val % 2 : Nat) : Int) := by decide +kernel
theorem bit_and (y : Nat) (h : y < 256) : bits .and .i64 (wrap64 ((y : Nat) : Int)) 1 = ((y % 2 : Nat) : Int) := bit_and_all ⟨y, h⟩
set_option maxRecDepth 100000 in
set_option maxHeartbeats 1000000 in
theorem addrBit_any (f : Int) (bs : List Nat) (i : Int) (w : World) (h16 : bs.length = 16) (hlt : ∀ x ∈ bs, x < 256) (hi : (Lit.int .i64 i).wf = true) :
    Calls Tryd.prog 74 #[addrV f bs, .int .i64 i] w fun e w' => e = .returned (.int .i64 ((bitN f bs i : Nat) : Int)) ∧ Below w.heap.size w w' := by
  have HLT := Lib.hid hlt
  have HB0 := fun W => Lib.hid (addrBits_any f bs W h16)
  obtain ⟨cs, ecs, HA, HB⟩ := addr_boxed f bs w h16
  rw [ecs]
  clear ecs h16 hlt
  by_cases h0 : i < 0
  · rw [show bitN f bs i = 0 from if_neg (by omega)]
    go_enter Tryd.func74, Tryd.ntmps74
    go_upto_region 1 with fail
    generalize (w.alloc (.cells cs 25)) = W at *
    go_wp2_with fail
    go_ret
    exact ⟨rfl, HB.out⟩
  · obtain ⟨n, rfl⟩ : ∃ n : Nat, i = (n : Int) := ⟨i.toNat, by omega⟩
    have hb := bitsN_le f
    obtain ⟨N, eN⟩ : ∃ N, bitsN f = N := ⟨_, rfl⟩
    have EN := Lib.hid eN
    rw [eN] at HB0 hb
    clear eN
    replace h0 : ¬ ((n : Int) < 0) := by omega
    go_enter Tryd.func74, Tryd.ntmps74
    go_upto_region 1 with fail
    generalize (w.alloc (.cells cs 25)) = W at *
    go_wp2_with (refine load_addr_g HA _ rfl rfl rfl ?_)
    refine (HB0 W).out.mono ?_
    rintro e w1 ⟨rfl, hb1⟩
    have HA1 := Lib.hid (HA.out.below hb1)
    have B1 := Lib.hid (chain HB.out hb1)
    clear HA HB hb1 HB0
    by_cases hn : n < N
    · have hq : n / 8 < 16 := by omega
      have hcell := HA1.out.cells (n / 8) hq
      have hx := byte_lt HLT.out (n / 8)
      have HR : Hid (bitN f bs (n : Int) = bs.getD (n / 8) 0 / 2 ^ (7 - n % 8) % 2) := Lib.hid (by
        unfold bitN
        rw [EN.out, if_pos (by omega)]
        rfl)
      generalize bs.getD (n / 8) 0 = x at *
      obtain ⟨q, eq, hq2⟩ : ∃ q : Nat, n / 8 = q ∧ (n : Int) / 8 = (q : Int) := ⟨_, rfl, by omega⟩
      obtain ⟨r, er, hr2⟩ : ∃ r : Nat, n % 8 = r ∧ (n : Int) % 8 = (r : Int) := ⟨_, rfl, by omega⟩
      have hr : r ≤ 7 := by omega
      rw [eq] at hcell hq
      rw [er] at HR
      have q16 : (q : Int) < 16 := by omega
      have d1 : (n : Int).tdiv 8 = (q : Int) := by rw [Int.tdiv_eq_ediv_of_nonneg (by omega)]; exact hq2
      have d2 : (n : Int).tmod 8 = (r : Int) := by rw [Int.tmod_eq_emod_of_nonneg (by omega)]; exact hr2
      clear eq er
      go_wp2_with fail
      go_ret
      refine ⟨?_, B1.out⟩
      rw [HR.out]
      have hy : x / 2 ^ (7 - r) < 256 := Nat.lt_of_le_of_lt (Nat.div_le_self _ _) hx
      have e1 := bit_and (x / 2 ^ (7 - r)) hy
      rw [show (((x / 2 ^ (7 - r) : Nat) : Int)) = (x : Int) / 2 ^ (7 - r) by norm_cast] at e1
      exact congrArg (fun z => Ending.returned (Value.int IntKind.i64 z)) e1
    · have HR : Hid (bitN f bs (n : Int) = 0) := Lib.hid (by unfold bitN; rw [EN.out, if_neg (by omega)])
      go_wp2_with fail
      go_ret
      exact ⟨by rw [HR.out]; rfl, B1.out⟩
end Go.Proofs.YtgbajagacmfcmaaDoor

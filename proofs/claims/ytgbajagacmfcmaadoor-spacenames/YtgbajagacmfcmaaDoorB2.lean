/- Texts that belong together, one behind the other: RefAddrBit, CidrBits, HeldR, AddrBox, AddrHeld, EqArr, EqAddr, AddrEq, PrefKit, RefCidrWith, RefAddrOf, RefAddrMap, RefAddrGood, Digits, RefCidrMask, RefAddrCompare. -/
import Derived.Test.YtgbajagacmfcmaaDoorB1
import Derived.Deep.Cut
import Derived.Deep.RegionHeld3
import Derived.Deep.MidRow
import Derived.Test.YtgbajagacmfcmaaDoorRows
import Derived.WalkKit
import Derived.ChangeKeysEq
import Derived.Laws.StructEq
import Derived.OpenShut
/- Contract of the reference's Bit of layer 4. -/
namespace Go.Proofs.YtgbajagacmfcmaaDoor
open Go.RowKit
set_option linter.unusedVariables false
set_option maxRecDepth 20000

/-- The bit at a place. -/
def bitN (f : Int) (bs : List Nat) (i : Int) : Nat := if 0 ≤ i ∧ i < (bitsN f : Int) then bs.getD (i.toNat / 8) 0 / 2 ^ (7 - i.toNat % 8) % 2 else 0
theorem bitsN_le (f : Int) : bitsN f ≤ 128 := by
  unfold bitsN
  split
  · decide
  · split <;> decide
set_option maxRecDepth 100000 in
set_option maxHeartbeats 1000000 in
theorem refBit_any (f : Int) (bs : List Nat) (i : Int) (w : World) (h16 : bs.length = 16) (hlt : ∀ x ∈ bs, x < 256) (hi : (Lit.int .i64 i).wf = true) :
    Calls Tryd.prog 47 #[addrV f bs, .int .i64 i] w fun e w' => e = .returned (.int .i64 ((bitN f bs i : Nat) : Int)) ∧ Below w.heap.size w w' := by
  have HLT := Lib.hid hlt
  have HB := fun W => Lib.hid (refBits_any f bs W h16)
  obtain ⟨y0, y1, y2, y3, y4, y5, y6, y7, y8, y9, y10, y11, y12, y13, y14, y15, hbs⟩ := list16 bs h16
  have ha : addrV f bs = .agg #[.int .i64 f, .int .u8 (y0 : Int), .int .u8 (y1 : Int), .int .u8 (y2 : Int), .int .u8 (y3 : Int), .int .u8 (y4 : Int), .int .u8 (y5 : Int), .int .u8 (y6 : Int), .int .u8 (y7 : Int), .int .u8 (y8 : Int), .int .u8 (y9 : Int), .int .u8 (y10 : Int), .int .u8 (y11 : Int), .int .u8 (y12 : Int), .int .u8 (y13 : Int), .int .u8 (y14 : Int), .int .u8 (y15 : Int)] := by rw [hbs]; rfl
  rw [ha]
  rw [ha] at HB
  have hA := AddrAt.new w 25 f y0 y1 y2 y3 y4 y5 y6 y7 y8 y9 y10 y11 y12 y13 y14 y15
  rw [← hbs] at hA
  have B0 : Hid (Below w.heap.size w (w.alloc (.cells #[.int .i64 f, .int .u8 (y0 : Int), .int .u8 (y1 : Int), .int .u8 (y2 : Int), .int .u8 (y3 : Int), .int .u8 (y4 : Int), .int .u8 (y5 : Int), .int .u8 (y6 : Int), .int .u8 (y7 : Int), .int .u8 (y8 : Int), .int .u8 (y9 : Int), .int .u8 (y10 : Int), .int .u8 (y11 : Int), .int .u8 (y12 : Int), .int .u8 (y13 : Int), .int .u8 (y14 : Int), .int .u8 (y15 : Int)] 25))) := Lib.hid ((Below.refl _ _).alloc (Nat.le_refl _) _)
  have HA := Lib.hid hA
  clear ha hbs h16 hlt hA
  by_cases h0 : i < 0
  · rw [show bitN f bs i = 0 from if_neg (by omega)]
    go_enter Tryd.func47, Tryd.ntmps47
    go_wp2_with fail
    go_ret
    exact ⟨rfl, B0.out⟩
  · obtain ⟨n, rfl⟩ : ∃ n : Nat, i = (n : Int) := ⟨i.toNat, by omega⟩
    have hb := bitsN_le f
    obtain ⟨N, eN⟩ : ∃ N, bitsN f = N := ⟨_, rfl⟩
    have EN := Lib.hid eN
    rw [eN] at HB hb
    clear eN
    replace h0 : ¬ ((n : Int) < 0) := by omega
    go_enter Tryd.func47, Tryd.ntmps47
    go_wp2_with fail
    generalize (w.alloc (.cells #[.int .i64 f, .int .u8 (y0 : Int), .int .u8 (y1 : Int), .int .u8 (y2 : Int), .int .u8 (y3 : Int), .int .u8 (y4 : Int), .int .u8 (y5 : Int), .int .u8 (y6 : Int), .int .u8 (y7 : Int), .int .u8 (y8 : Int), .int .u8 (y9 : Int), .int .u8 (y10 : Int), .int .u8 (y11 : Int), .int .u8 (y12 : Int), .int .u8 (y13 : Int), .int .u8 (y14 : Int), .int .u8 (y15 : Int)] 25)) = W at *
    refine (HB W).out.mono ?_
    rintro e w1 ⟨rfl, hb1⟩
    have HA1 := Lib.hid (HA.out.below hb1)
    have B1 := Lib.hid (chain B0.out hb1)
    clear HA B0 hb1 HB
    by_cases hn : n < N
    · have hq : n / 8 < 16 := by omega
      have hcell := HA1.out.cells (n / 8) hq
      have hx := byte_lt HLT.out (n / 8)
      have HR : Hid (bitN f bs (n : Int) = bs.getD (n / 8) 0 / 2 ^ (7 - n % 8) % 2) := Lib.hid (by
        unfold bitN
        rw [EN.out, if_pos (by omega)]
        rfl)
      generalize bs.getD (n / 8) 0 = x at *
      obtain ⟨q, eq, hq2⟩ : ∃ q : Nat, n / 8 = q ∧ (n : Int) / 8 = (q : Int) := ⟨_, rfl, by omega⟩
      obtain ⟨r, er, hr2⟩ : ∃ r : Nat, n % 8 = r ∧ (n : Int) % 8 = (r : Int) := ⟨_, rfl, by omega⟩
      have hr : r ≤ 7 := by omega
      rw [eq] at hcell hq
      rw [er] at HR
      have q16 : (q : Int) < 16 := by omega
      have d1 : (n : Int).tdiv 8 = (q : Int) := by rw [Int.tdiv_eq_ediv_of_nonneg (by omega)]; exact hq2
      have d2 : (n : Int).tmod 8 = (r : Int) := by rw [Int.tmod_eq_emod_of_nonneg (by omega)]; exact hr2
      clear eq er
      go_wp2_with fail
      go_loop [5, 6] (fun c k => ∃ m C : Nat, r ≤ m ∧ m ≤ 7 ∧ k = .int .i64 (m : Int) ∧ c = .int .i64 (C : Int) ∧ C < 256 ∧ Hid (C = x / 2 ^ (m - r))) (fun _ k => 7 - (intOf k).toNat)
      case atStart => exact ⟨r, x, Nat.le_refl _, hr, by go_num, by go_num, hx, Lib.hid (by simp)⟩
      case round =>
        obtain ⟨m, C, hm1, hm2, rfl, rfl, hC, HC⟩ := hrel
        by_cases hm7 : m < 7
        · have HC2 : Hid (C / 2 = x / 2 ^ (m + 1 - r)) := Lib.hid (by rw [HC.out, show m + 1 - r = (m - r) + 1 by omega, Nat.pow_succ, Nat.div_div_eq_div_mul])
          have t2 : (C : Int).tdiv 2 = ((C / 2 : Nat) : Int) := by rw [Int.tdiv_eq_ediv_of_nonneg (by omega)]; omega
          go_wp2_with fail
          go_round
          case rel => exact ⟨m + 1, C / 2, by omega, by omega, by go_num, by first | rfl | go_num, by omega, HC2⟩
          case measure => simp [intOf]; omega
        · obtain rfl : m = 7 := by omega
          have HE : Hid (bitN f bs (n : Int) = C % 2) := Lib.hid (by rw [HR.out, HC.out])
          have t3 : (C : Int).tmod 2 = ((C % 2 : Nat) : Int) := by rw [Int.tmod_eq_emod_of_nonneg (by omega)]; omega
          go_wp2_with fail
          go_ret
          exact ⟨by rw [HE.out]; first | rfl | (congr 2; omega), B1.out⟩
    · have HR : Hid (bitN f bs (n : Int) = 0) := Lib.hid (by unfold bitN; rw [EN.out, if_neg (by omega)])
      go_wp2_with fail
      go_ret
      exact ⟨by rw [HR.out]; rfl, B1.out⟩
end Go.Proofs.YtgbajagacmfcmaaDoor
/- Plain facts on the bits of sixteen bytes: a row of bytes is its bits; bits set one by one; bits read one by one. -/
namespace Go.Proofs.YtgbajagacmfcmaaDoor
open Go.RowKit
set_option linter.unusedVariables false
set_option maxRecDepth 20000

/-- The bit at a place. -/
def bitA (l : List Nat) (i : Nat) : Nat := l.getD (i / 8) 0 / 2 ^ (7 - i % 8) % 2
theorem bitA_le (l : List Nat) (i : Nat) : bitA l i ≤ 1 := by unfold bitA; omega
theorem bitN_A (f : Int) (bs : List Nat) (i : Nat) (h : i < bitsN f) : bitN f bs (i : Int) = bitA bs i := by
  unfold bitN
  rw [if_pos (by omega)]
  rfl
theorem bitsN_cases (f : Int) : (f = 4 ∧ bitsN f = 32) ∨ (f = 6 ∧ bitsN f = 128) ∨ (f ≠ 4 ∧ f ≠ 6 ∧ bitsN f = 0) := by
  unfold bitsN
  by_cases h4 : f = 4
  · exact .inl ⟨h4, by rw [if_pos h4]⟩
  · by_cases h6 : f = 6
    · exact .inr (.inl ⟨h6, by rw [if_neg h4, if_pos h6]⟩)
    · exact .inr (.inr ⟨h4, h6, by rw [if_neg h4, if_neg h6]⟩)
theorem byte_bits (x : Nat) (h : x < 256) : x = x / 128 % 2 * 128 + x / 64 % 2 * 64 + x / 32 % 2 * 32 + x / 16 % 2 * 16 + x / 8 % 2 * 8 + x / 4 % 2 * 4 + x / 2 % 2 * 2 + x % 2 := by omega
theorem byte_ext (x y : Nat) (hx : x < 256) (hy : y < 256) (h : ∀ r, r < 8 → x / 2 ^ (7 - r) % 2 = y / 2 ^ (7 - r) % 2) : x = y := by
  have h0 : x / 128 % 2 = y / 128 % 2 := h 0 (by decide)
  have h1 : x / 64 % 2 = y / 64 % 2 := h 1 (by decide)
  have h2 : x / 32 % 2 = y / 32 % 2 := h 2 (by decide)
  have h3 : x / 16 % 2 = y / 16 % 2 := h 3 (by decide)
  have h4 : x / 8 % 2 = y / 8 % 2 := h 4 (by decide)
  have h5 : x / 4 % 2 = y / 4 % 2 := h 5 (by decide)
  have h6 : x / 2 % 2 = y / 2 % 2 := h 6 (by decide)
  have h7 : x / 1 % 2 = y / 1 % 2 := h 7 (by decide)
  rw [byte_bits x hx, byte_bits y hy, h0, h1, h2, h3, h4, h5, h6]
  simp only [Nat.div_one] at h7
  rw [h7]
theorem getD_lt {l : List Nat} (h : ∀ x ∈ l, x < 256) (q : Nat) : l.getD q 0 < 256 := by
  by_cases hq : q < l.length
  · rw [List.getD_eq_getElem?_getD, List.getElem?_eq_getElem hq]
    exact h _ (List.getElem_mem hq)
  · rw [List.getD_eq_getElem?_getD, List.getElem?_eq_none (by omega)]
    decide
theorem getD_ext {xs ys : List Nat} (hl : xs.length = ys.length) (h : ∀ q, q < xs.length → xs.getD q 0 = ys.getD q 0) : xs = ys := by
  apply List.ext_getElem hl
  intro q h1 h2
  have := h q h1
  rw [List.getD_eq_getElem?_getD, List.getD_eq_getElem?_getD, List.getElem?_eq_getElem h1, List.getElem?_eq_getElem h2] at this
  exact this
/-- Sixteen bytes are their bits. -/
theorem bits_ext {xs ys : List Nat} (hx : xs.length = 16) (hy : ys.length = 16) (lx : ∀ x ∈ xs, x < 256) (ly : ∀ x ∈ ys, x < 256) (h : ∀ i, i < 128 → bitA xs i = bitA ys i) : xs = ys := by
  refine getD_ext (by rw [hx, hy]) (fun q hq => byte_ext _ _ (getD_lt lx q) (getD_lt ly q) (fun r hr => ?_))
  have h1 := h (8 * q + r) (by omega)
  unfold bitA at h1
  rw [show (8 * q + r) / 8 = q by omega, show (8 * q + r) % 8 = r by omega] at h1
  exact h1
/-- The byte of eight bits. -/
def octOf (β : Nat → Nat) (q : Nat) : Nat := β (8 * q) * 128 + β (8 * q + 1) * 64 + β (8 * q + 2) * 32 + β (8 * q + 3) * 16 + β (8 * q + 4) * 8 + β (8 * q + 5) * 4 + β (8 * q + 6) * 2 + β (8 * q + 7)
def ofBits (β : Nat → Nat) : List Nat := (List.range 16).map (octOf β)
theorem ofBits_len (β : Nat → Nat) : (ofBits β).length = 16 := by simp [ofBits]
theorem octOf_lt (β : Nat → Nat) (h : ∀ i, β i ≤ 1) (q : Nat) : octOf β q < 256 := by
  unfold octOf
  have h0 := h (8 * q); have h1 := h (8 * q + 1); have h2 := h (8 * q + 2); have h3 := h (8 * q + 3)
  have h4 := h (8 * q + 4); have h5 := h (8 * q + 5); have h6 := h (8 * q + 6); have h7 := h (8 * q + 7)
  omega
theorem ofBits_lt (β : Nat → Nat) (h : ∀ i, β i ≤ 1) : ∀ x ∈ ofBits β, x < 256 := by
  intro x hx
  obtain ⟨q, _, rfl⟩ := List.mem_map.1 hx
  exact octOf_lt β h q
theorem map_range_getD (g : Nat → Nat) (n q : Nat) (hq : q < n) : ((List.range n).map g).getD q 0 = g q := by
  rw [List.getD_eq_getElem?_getD, List.getElem?_map, List.getElem?_range hq]
  rfl
theorem ofBits_getD (β : Nat → Nat) (q : Nat) (hq : q < 16) : (ofBits β).getD q 0 = octOf β q := map_range_getD _ _ _ hq
theorem octOf_bit (β : Nat → Nat) (h : ∀ i, β i ≤ 1) (q r : Nat) (hr : r < 8) : octOf β q / 2 ^ (7 - r) % 2 = β (8 * q + r) := by
  unfold octOf
  have h0 := h (8 * q); have h1 := h (8 * q + 1); have h2 := h (8 * q + 2); have h3 := h (8 * q + 3)
  have h4 := h (8 * q + 4); have h5 := h (8 * q + 5); have h6 := h (8 * q + 6); have h7 := h (8 * q + 7)
  obtain rfl | rfl | rfl | rfl | rfl | rfl | rfl | rfl : r = 0 ∨ r = 1 ∨ r = 2 ∨ r = 3 ∨ r = 4 ∨ r = 5 ∨ r = 6 ∨ r = 7 := by omega
  · show _ / 128 % 2 = β (8 * q); omega
  · show _ / 64 % 2 = _; omega
  · show _ / 32 % 2 = _; omega
  · show _ / 16 % 2 = _; omega
  · show _ / 8 % 2 = _; omega
  · show _ / 4 % 2 = _; omega
  · show _ / 2 % 2 = _; omega
  · show _ / 1 % 2 = _; omega
theorem bitA_ofBits (β : Nat → Nat) (h : ∀ i, β i ≤ 1) (i : Nat) (hi : i < 128) : bitA (ofBits β) i = β i := by
  unfold bitA
  rw [ofBits_getD β _ (by omega), octOf_bit β h _ _ (by omega), show 8 * (i / 8) + i % 8 = i by omega]
theorem ofBits_self {xs : List Nat} (hx : xs.length = 16) (lx : ∀ x ∈ xs, x < 256) : ofBits (bitA xs) = xs :=
  bits_ext (ofBits_len _) hx (ofBits_lt _ (bitA_le xs)) lx (fun i hi => bitA_ofBits _ (bitA_le xs) i hi)
theorem ofBits_congr {β γ : Nat → Nat} (h1 : ∀ i, β i ≤ 1) (h2 : ∀ i, γ i ≤ 1) (h : ∀ i, i < 128 → β i = γ i) : ofBits β = ofBits γ :=
  bits_ext (ofBits_len _) (ofBits_len _) (ofBits_lt _ h1) (ofBits_lt _ h2) (fun i hi => by rw [bitA_ofBits β h1 i hi, bitA_ofBits γ h2 i hi, h i hi])
/-- A bit set. -/
def setB (l : List Nat) (i : Nat) : List Nat := l.set (i / 8) (l.getD (i / 8) 0 ||| 2 ^ (7 - i % 8))
theorem setB_len (l : List Nat) (i : Nat) : (setB l i).length = l.length := by simp [setB]
theorem or_bit_all : ∀ x : Fin 256, ∀ r : Fin 8, (x.val ||| 2 ^ (7 - r.val)) < 256 ∧ ∀ j : Fin 8, (x.val ||| 2 ^ (7 - r.val)) / 2 ^ (7 - j.val) % 2 = if j = r then 1 else x.val / 2 ^ (7 - j.val) % 2 := by decide +kernel
theorem or_bit_lt (x r : Nat) (hx : x < 256) (hr : r < 8) : (x ||| 2 ^ (7 - r)) < 256 := (or_bit_all ⟨x, hx⟩ ⟨r, hr⟩).1
theorem or_bit (x r j : Nat) (hx : x < 256) (hr : r < 8) (hj : j < 8) : (x ||| 2 ^ (7 - r)) / 2 ^ (7 - j) % 2 = if j = r then 1 else x / 2 ^ (7 - j) % 2 := by
  have := (or_bit_all ⟨x, hx⟩ ⟨r, hr⟩).2 ⟨j, hj⟩
  rw [this]
  by_cases h : j = r
  · subst h; rw [if_pos rfl, if_pos rfl]
  · rw [if_neg h, if_neg (fun e => h (Fin.mk.inj e))]
theorem setB_lt {l : List Nat} (h : ∀ x ∈ l, x < 256) (i : Nat) : ∀ x ∈ setB l i, x < 256 := by
  intro x hx
  rcases List.mem_or_eq_of_mem_set hx with h1 | rfl
  · exact h x h1
  · exact or_bit_lt _ _ (getD_lt h _) (by omega)
theorem getD_set (l : List Nat) (i j v : Nat) (hi : i < l.length) : (l.set i v).getD j 0 = if j = i then v else l.getD j 0 := by
  rw [List.getD_eq_getElem?_getD, List.getD_eq_getElem?_getD, List.getElem?_set]
  by_cases h : j = i
  · subst h; rw [if_pos rfl, if_pos hi, if_pos rfl]; rfl
  · rw [if_neg (fun e => h e.symm), if_neg h]
theorem bitA_setB {l : List Nat} (h16 : l.length = 16) (hlt : ∀ x ∈ l, x < 256) (i j : Nat) (hi : i < 128) (hj : j < 128) : bitA (setB l i) j = if j = i then 1 else bitA l j := by
  unfold bitA setB
  rw [getD_set _ _ _ _ (by omega)]
  by_cases hq : j / 8 = i / 8
  · rw [if_pos hq, or_bit _ _ _ (getD_lt hlt _) (by omega) (by omega)]
    by_cases hr : j % 8 = i % 8
    · rw [if_pos hr, if_pos (by omega)]
    · rw [if_neg hr, if_neg (by intro e; exact hr (by rw [e])), hq]
  · rw [if_neg hq, if_neg (by intro e; exact hq (by rw [e]))]
/-- An address all of whose bits from one on are b. -/
def withF (N : Nat) (bs : List Nat) (k b i : Nat) : Nat := if i < N then (if k ≤ i then b else bitA bs i) else 0
def withL (N : Nat) (bs : List Nat) (k b : Nat) : List Nat := ofBits (withF N bs k b)
theorem withF_le (N : Nat) (bs : List Nat) (k b i : Nat) (hb : b ≤ 1) : withF N bs k b i ≤ 1 := by
  unfold withF
  have := bitA_le bs i
  split
  · split <;> omega
  · omega
theorem withL_len (N : Nat) (bs : List Nat) (k b : Nat) : (withL N bs k b).length = 16 := ofBits_len _
theorem withL_lt (N : Nat) (bs : List Nat) (k b : Nat) (hb : b ≤ 1) : ∀ x ∈ withL N bs k b, x < 256 := ofBits_lt _ (fun i => withF_le N bs k b i hb)
theorem bitA_with (N : Nat) (bs : List Nat) (k b i : Nat) (hb : b ≤ 1) (hi : i < 128) : bitA (withL N bs k b) i = withF N bs k b i := bitA_ofBits _ (fun i => withF_le N bs k b i hb) i hi
theorem withL_zero (N : Nat) (bs : List Nat) : withL N bs 0 0 = List.replicate 16 0 :=
  bits_ext (withL_len _ _ _ _) (by simp) (withL_lt _ _ _ _ (by decide)) (fun x hx => by rw [List.eq_of_mem_replicate hx]; decide) (fun i hi => by
    rw [bitA_with _ _ _ _ _ (by decide) hi]
    have h0 : (List.replicate 16 0).getD (i / 8) 0 = 0 := by rw [List.getD_eq_getElem?_getD, List.getElem?_replicate, if_pos (by omega)]; rfl
    have h1 : bitA (List.replicate 16 0) i = 0 := by unfold bitA; rw [h0]; simp
    rw [h1]
    unfold withF
    simp)
/-- One bit more is kept: it is 1. -/
theorem with_one (N : Nat) (bs : List Nat) (k : Nat) (hk : k < N) (hN : N ≤ 128) (h : bitA bs k = 1) : setB (withL N bs k 0) k = withL N bs (k + 1) 0 :=
  bits_ext (by rw [setB_len, withL_len]) (withL_len _ _ _ _) (setB_lt (withL_lt _ _ _ _ (by decide)) _) (withL_lt _ _ _ _ (by decide)) (fun i hi => by
    rw [bitA_setB (withL_len _ _ _ _) (withL_lt _ _ _ _ (by decide)) k i (by omega) hi, bitA_with _ _ _ _ _ (by decide) hi, bitA_with _ _ _ _ _ (by decide) hi]
    unfold withF
    by_cases e : i = k
    · subst e; rw [if_pos rfl, if_pos hk, if_neg (by omega), h]
    · rw [if_neg e]
      by_cases h1 : i < N
      · rw [if_pos h1, if_pos h1]
        by_cases h2 : k ≤ i
        · rw [if_pos h2, if_pos (by omega)]
        · rw [if_neg h2, if_neg (by omega)]
      · rw [if_neg h1, if_neg h1])
theorem with_none (N : Nat) (bs : List Nat) (k : Nat) (hk : k < N) (h : bitA bs k = 0) : withL N bs k 0 = withL N bs (k + 1) 0 :=
  ofBits_congr (fun i => withF_le _ _ _ _ _ (by decide)) (fun i => withF_le _ _ _ _ _ (by decide)) (fun i hi => by
    unfold withF
    by_cases e : i = k
    · subst e; rw [if_pos hk, if_pos hk, if_pos (Nat.le_refl _), if_neg (by omega), h]
    · by_cases h1 : i < N
      · rw [if_pos h1, if_pos h1]
        by_cases h2 : k ≤ i
        · rw [if_pos h2, if_pos (by omega)]
        · rw [if_neg h2, if_neg (by omega)]
      · rw [if_neg h1, if_neg h1])
/-- The bits from n to k, set. -/
def lastF (bs : List Nat) (n k i : Nat) : Nat := if n ≤ i ∧ i < k then 1 else bitA bs i
def lastL (bs : List Nat) (n k : Nat) : List Nat := ofBits (lastF bs n k)
theorem lastF_le (bs : List Nat) (n k i : Nat) : lastF bs n k i ≤ 1 := by
  unfold lastF
  have := bitA_le bs i
  split <;> omega
theorem lastL_len (bs : List Nat) (n k : Nat) : (lastL bs n k).length = 16 := ofBits_len _
theorem lastL_lt (bs : List Nat) (n k : Nat) : ∀ x ∈ lastL bs n k, x < 256 := ofBits_lt _ (lastF_le bs n k)
theorem lastL_zero {bs : List Nat} (n : Nat) (h16 : bs.length = 16) (hlt : ∀ x ∈ bs, x < 256) : lastL bs n 0 = bs := by
  unfold lastL
  refine bits_ext (ofBits_len _) h16 (ofBits_lt _ (lastF_le _ _ _)) hlt (fun i hi => ?_)
  rw [bitA_ofBits _ (lastF_le _ _ _) i hi]
  exact if_neg (by omega)
theorem last_one (bs : List Nat) (n k : Nat) (hk : k < 128) (h : n ≤ k) : setB (lastL bs n k) k = lastL bs n (k + 1) :=
  bits_ext (by rw [setB_len, lastL_len]) (lastL_len _ _ _) (setB_lt (lastL_lt _ _ _) _) (lastL_lt _ _ _) (fun i hi => by
    rw [bitA_setB (lastL_len _ _ _) (lastL_lt _ _ _) k i hk hi]
    unfold lastL
    rw [bitA_ofBits _ (lastF_le _ _ _) i hi, bitA_ofBits _ (lastF_le _ _ _) i hi]
    unfold lastF
    by_cases e : i = k
    · subst e; rw [if_pos rfl, if_pos (by omega)]
    · rw [if_neg e]
      by_cases h1 : n ≤ i ∧ i < k
      · rw [if_pos h1, if_pos (by omega)]
      · rw [if_neg h1, if_neg (by omega)])
theorem last_none (bs : List Nat) (n k : Nat) (h : ¬ n ≤ k) : lastL bs n k = lastL bs n (k + 1) :=
  ofBits_congr (lastF_le _ _ _) (lastF_le _ _ _) (fun i hi => by
    have h1 : lastF bs n k i = bitA bs i := if_neg (by omega)
    have h2 : lastF bs n (k + 1) i = bitA bs i := if_neg (by omega)
    rw [h1, h2])
/-- Bytes that are told bit by bit. -/
def partL (β : Nat → Nat) (k : Nat) : List Nat := (List.range 16).map fun q => octOf β q / 2 ^ (8 - min 8 (k - 8 * q))
theorem partL_len (β : Nat → Nat) (k : Nat) : (partL β k).length = 16 := by simp [partL]
theorem partL_getD (β : Nat → Nat) (k q : Nat) (hq : q < 16) : (partL β k).getD q 0 = octOf β q / 2 ^ (8 - min 8 (k - 8 * q)) := map_range_getD _ _ _ hq
theorem partL_zero (β : Nat → Nat) (h : ∀ i, β i ≤ 1) : partL β 0 = List.replicate 16 0 := by
  refine getD_ext (by rw [partL_len]; simp) (fun q hq => ?_)
  rw [partL_len] at hq
  rw [partL_getD β 0 q hq, List.getD_eq_getElem?_getD, List.getElem?_replicate, if_pos hq, show 8 - min 8 (0 - 8 * q) = 8 by omega]
  exact Nat.div_eq_of_lt (octOf_lt β h q)
theorem half_step (x r : Nat) (hr : r < 8) : x / 2 ^ (8 - (r + 1)) = x / 2 ^ (8 - r) * 2 + x / 2 ^ (7 - r) % 2 := by
  rw [show 8 - (r + 1) = 7 - r by omega, show 8 - r = (7 - r) + 1 by omega, Nat.pow_succ, ← Nat.div_div_eq_div_mul]
  omega
theorem partL_step (β : Nat → Nat) (h : ∀ i, β i ≤ 1) (k : Nat) (hk : k < 128) : (partL β k).set (k / 8) ((partL β k).getD (k / 8) 0 * 2 + β k) = partL β (k + 1) := by
  refine getD_ext (by rw [List.length_set, partL_len, partL_len]) (fun q hq => ?_)
  rw [List.length_set, partL_len] at hq
  rw [getD_set _ _ _ _ (by rw [partL_len]; omega), partL_getD β (k + 1) q hq]
  by_cases e : q = k / 8
  · rw [if_pos e, partL_getD β k _ (by omega), ← e]
    have h1 := half_step (octOf β q) (k % 8) (by omega)
    rw [octOf_bit β h q _ (by omega), show 8 * q + k % 8 = k by omega] at h1
    rw [show 8 - min 8 (k + 1 - 8 * q) = 8 - (k % 8 + 1) by omega, h1, show 8 - min 8 (k - 8 * q) = 8 - k % 8 by omega]
  · rw [if_neg e, partL_getD β k q hq]
    congr 2
    omega
theorem partL_lt (β : Nat → Nat) (h : ∀ i, β i ≤ 1) (k : Nat) (hk : k < 128) : (partL β k).getD (k / 8) 0 < 128 := by
  rw [partL_getD β k _ (by omega), show 8 - min 8 (k - 8 * (k / 8)) = 8 - k % 8 by omega]
  have h1 := octOf_lt β h (k / 8)
  refine Nat.div_lt_of_lt_mul (Nat.lt_of_lt_of_le h1 ?_)
  have : 2 ^ 1 ≤ 2 ^ (8 - k % 8) := Nat.pow_le_pow_right (by decide) (by omega)
  omega
theorem partL_end (f : Int) (β : Nat → Nat) (h : ∀ i, bitsN f ≤ i → β i = 0) : partL β (bitsN f) = ofBits β := by
  refine getD_ext (by rw [partL_len, ofBits_len]) (fun q hq => ?_)
  rw [partL_len] at hq
  rw [partL_getD β _ q hq, ofBits_getD β q hq]
  have hz : bitsN f ≤ 8 * q → octOf β q = 0 := fun hN => by
    unfold octOf
    rw [h _ (by omega), h _ (by omega), h _ (by omega), h _ (by omega), h _ (by omega), h _ (by omega), h _ (by omega), h _ (by omega)]
  by_cases hN : bitsN f ≤ 8 * q
  · rw [hz hN, Nat.zero_div]
  · have : 8 ≤ bitsN f - 8 * q := by rcases bitsN_cases f with ⟨_, e⟩ | ⟨_, e⟩ | ⟨_, _, e⟩ <;> rw [e] at hN ⊢ <;> omega
    rw [show 8 - min 8 (bitsN f - 8 * q) = 0 by omega, Nat.pow_zero, Nat.div_one]
end Go.Proofs.YtgbajagacmfcmaaDoor
/- What a walk holds in a region that draws its order: ranges of cells, and that nothing older has turned. -/
namespace Go.Proofs.YtgbajagacmfcmaaDoor
open Go.RowKit
set_option linter.unusedVariables false
set_option maxRecDepth 20000

/-- The ranges of L lie there; all that lay below W is as it was. -/
def HeldR (L : List (Nat × Nat × List Value)) (W w : World) : Prop := (∀ x ∈ L, w.rangeAt x.1 x.2.1 x.2.2 ∧ x.1 < w.heap.size) ∧ Below W.heap.size W w
section
variable {L : List (Nat × Nat × List Value)} {W w w' : World} {b o : Nat} {cs : List Value}
theorem HeldR.get (h : HeldR L W w) (hm : (b, o, cs) ∈ L) : w.rangeAt b o cs := (h.1 _ hm).1
theorem HeldR.cell (h : HeldR L W w) (hm : (b, o, cs) ∈ L) (j : Nat) (v : Value) (hv : cs[j]? = some v) : w.cell? ⟨b, o + j, none⟩ = some v := (h.1 _ hm).1 j v hv
theorem HeldR.bel (h : HeldR L W w) : Below W.heap.size W w := h.2
theorem HeldR.next (h : HeldR L W w) (hb : Below w.heap.size w w') : HeldR L W w' := by
  refine ⟨fun x hx => ?_, chain h.2 hb⟩
  obtain ⟨h1, h2⟩ := h.1 x hx
  refine ⟨fun j v hv => ?_, Nat.lt_of_lt_of_le h2 hb.size⟩
  rw [hb.cell (p := ⟨x.1, x.2.1 + j, none⟩) h2]
  exact h1 j v hv
theorem HeldR.drew (h : HeldR L W w) : HeldR L W w.drew := h.next (Below.refl _ _).drew
theorem HeldR.nil (h : Below W.heap.size W w) : HeldR [] W w := ⟨(fun x hx => by cases hx), h⟩
theorem HeldR.cons (h : HeldR L W w) (hr : w.rangeAt b o cs) (hb : b < w.heap.size) : HeldR ((b, o, cs) :: L) W w :=
  ⟨fun x hx => by
    rcases List.mem_cons.1 hx with rfl | hx
    · exact ⟨hr, hb⟩
    · exact h.1 x hx, h.2⟩
theorem Calls.heldR {P : Program} {f : FuncId} {args : Array Value} {v : Value} (hc : Calls P f args w fun e w' => e = .returned v ∧ Below w.heap.size w w') (h : HeldR L W w) :
    Calls P f args w fun e w' => e = .returned v ∧ HeldR L W w' :=
  hc.mono fun _ _ ⟨he, hb⟩ => ⟨he, h.next hb⟩
/-- A cell that lies in one of the ranges. -/
def CellR (L : List (Nat × Nat × List Value)) (W : World) (b o : Nat) (v : Value) : Prop := ∀ w, HeldR L W w → w.cell? ⟨b, o, none⟩ = some v
end
/-- A guarded or plain load of a whole row, in a plain region. -/
theorem wpList_load_row {P : Program} {ops : Array Oper} {rest : List Oper} {op : Oper} {a : Act} {w : World} {Q : Exit → Act → World → Prop} (hw : Region.wanted op (yielded ops a.tmps) = true) (ty : TypeId) (x : Operand) (ho : op.op = .load ty x)
    (b o : Nat) (hx : a.eval x = .pointer (some ⟨b, o, none⟩)) (cs : List Value) (d : TypeDesc) (hc : w.rangeAt b o cs)
    (hu : P.underlying ty = some d) (hd : d.isRow = true) (hi : (P.info? ty).map (·.size) = some cs.length)
    (h : wpList P ops Q rest (a.put op.dst (.agg cs.toArray)) w) : wpList P ops Q (op :: rest) a w := by
  simp only [wpList, hw, if_true]
  exact .inl (wp_load_mid ty x ho b o hx cs d hc hu hd hi h)
end Go.Proofs.YtgbajagacmfcmaaDoor
/- An address that comes in, boxed; one of zeros. -/
namespace Go.Proofs.YtgbajagacmfcmaaDoor
open Go.RowKit
set_option linter.unusedVariables false
set_option maxRecDepth 20000

/-- The cells of an address of zeros. -/
abbrev zA : Array Value := #[.int .i64 0, .int .u8 0, .int .u8 0, .int .u8 0, .int .u8 0, .int .u8 0, .int .u8 0, .int .u8 0, .int .u8 0, .int .u8 0, .int .u8 0, .int .u8 0, .int .u8 0, .int .u8 0, .int .u8 0, .int .u8 0, .int .u8 0]
theorem addr_boxed (f : Int) (bs : List Nat) (w : World) (h16 : bs.length = 16) :
    ∃ cs : Array Value, addrV f bs = .agg cs ∧ Hid (AddrAt (w.alloc (.cells cs 25)) w.heap.size f bs) ∧ Hid (Below w.heap.size w (w.alloc (.cells cs 25))) :=
  ⟨_, rfl, Lib.hid (AddrAt.of w _ _ f bs h16 rfl), Lib.hid ((Below.refl _ _).alloc (Nat.le_refl _) _)⟩
theorem addr_zeroed (w : World) : AddrAt (w.alloc (.cells zA 25)) w.heap.size 0 (List.replicate 16 0) := AddrAt.of w _ _ 0 _ rfl rfl
theorem heap_alloc (w : World) (b : Obj) : (w.alloc b).heap.size = w.heap.size + 1 := by simp
theorem AddrAt.alloc {w : World} {G : Nat} {f : Int} {bs : List Nat} (h : AddrAt w G f bs) (b : Obj) : AddrAt (w.alloc b) G f bs := h.below ((Below.refl _ _).alloc (Nat.le_refl _) _)
end Go.Proofs.YtgbajagacmfcmaaDoor
/- Addresses that a walk holds; loads of them, guarded or not, and of their bytes alone; sixteen bytes stored whole. -/
namespace Go.Proofs.YtgbajagacmfcmaaDoor
open Go.RowKit
set_option linter.unusedVariables false
set_option maxRecDepth 20000

theorem HeldR.addr {L : List (Nat × Nat × List Value)} {W w : World} {G : Nat} {f : Int} {bs : List Nat} (h : HeldR L W w) (hA : AddrAt w G f bs) : HeldR ((G, 0, addrL f bs) :: L) W w := h.cons hA.range hA.lt
/-- An address of the list. -/
def InA (L : List (Nat × Nat × List Value)) (G : Nat) (f : Int) (bs : List Nat) : Prop := (G, 0, addrL f bs) ∈ L ∧ bs.length = 16
theorem yields_addr {ops : Array Oper} {op : Oper} {a : Act} {L : List (Nat × Nat × List Value)} {W : World} {G : Nat} {f : Int} {bs : List Nat} (hm : Hid (InA L G f bs)) (hw : Region.wanted op (yielded ops a.tmps) = true) (x : Operand) (ho : op.op = .load 25 x)
    (hx : a.eval x = .pointer (some ⟨G, 0, none⟩)) : YieldsIf Tryd.prog ops (HeldR L W) op (addrV f bs) a :=
  yieldsIf_load_mid hw 25 x ho G 0 hx (addrL f bs) _ (fun _ h => h.get hm.out.1) Tryd.underlying25 rfl (by rw [addr_size, addrL_len f bs hm.out.2])
theorem famR {L : List (Nat × Nat × List Value)} {G : Nat} {f : Int} {bs : List Nat} (h : InA L G f bs) (W : World) : CellR L W G 0 (.int .i64 f) := fun w hw => hw.cell h.1 0 _ rfl
/-- An address, loaded whole, guarded or not. -/
theorem load_addr_g {ops : Array Oper} {rest : List Oper} {op : Oper} {a : Act} {w : World} {Q : Exit → Act → World → Prop} {G : Nat} {f : Int} {bs : List Nat} (hA : Hid (AddrAt w G f bs)) (x : Operand) (hw : Region.wanted op (yielded ops a.tmps) = true) (ho : op.op = .load 25 x)
    (hx : a.eval x = .pointer (some ⟨G, 0, none⟩)) (h : wpList Tryd.prog ops Q rest (a.put op.dst (addrV f bs)) w) : wpList Tryd.prog ops Q (op :: rest) a w :=
  wpList_load_row hw 25 x ho G 0 hx (addrL f bs) _ hA.out.range Tryd.underlying25 rfl (by rw [addr_size, addrL_len f bs hA.out.len]) h
theorem drewN_below (w : World) (q : Nat) : Below w.heap.size w (w.drewN q) := ⟨rfl, rfl, rfl, Nat.le_refl _, fun _ _ => rfl⟩
theorem arr16_size : (Tryd.prog.info? 23).map (·.size) = some 16 := by kernel_rfl
/-- Sixteen bytes that lie somewhere. -/
structure B16 (w : World) (G o : Nat) (bs : List Nat) : Prop where
  len : bs.length = 16
  lt : G < w.heap.size
  range : w.rangeAt G o (bs.map fun n => Value.int .u8 ((n : Nat) : Int))
  there : w.there G o 16
theorem AddrAt.b16 {w : World} {G : Nat} {f : Int} {bs : List Nat} (h : AddrAt w G f bs) : B16 w G 1 bs := by
  refine ⟨h.len, h.lt, ?_, fun j hj => ?_⟩
  · intro j v hv
    have := h.range (j + 1) v (by rw [addrL, List.getElem?_cons_succ]; exact hv)
    rw [Nat.zero_add, Nat.add_comm] at this
    exact this
  · have := h.there (1 + j) (by omega)
    rw [Nat.zero_add] at this
    exact this
theorem B16.below {w w' : World} {G o : Nat} {bs : List Nat} (h : B16 w G o bs) (hb : Below w.heap.size w w') : B16 w' G o bs :=
  ⟨h.len, Nat.lt_of_lt_of_le h.lt hb.size, fun j v hv => by rw [hb.cell (p := ⟨G, o + j, none⟩) h.lt]; exact h.range j v hv, fun j hj => by
    rw [hb.cell (p := ⟨G, o + j, none⟩) h.lt, hb.frozen (p := ⟨G, o + j, none⟩) h.lt]
    exact h.there j hj⟩
/-- Sixteen bytes, loaded whole, guarded or not. -/
theorem load_b16 {ops : Array Oper} {rest : List Oper} {op : Oper} {a : Act} {w : World} {Q : Exit → Act → World → Prop} {G o : Nat} {bs : List Nat} (hA : Hid (B16 w G o bs)) (x : Operand) (hw : Region.wanted op (yielded ops a.tmps) = true) (ho : op.op = .load 23 x)
    (hx : a.eval x = .pointer (some ⟨G, o, none⟩)) (h : wpList Tryd.prog ops Q rest (a.put op.dst (arr16 bs)) w) : wpList Tryd.prog ops Q (op :: rest) a w :=
  wpList_load_row hw 23 x ho G o hx _ _ hA.out.range Tryd.underlying23 rfl (by rw [arr16_size, List.length_map, hA.out.len]) h
/-- Sixteen bytes, stored whole. -/
theorem store_b16 {ops : Array Oper} {rest : List Oper} {op : Oper} {a : Act} {w : World} {Q : Exit → Act → World → Prop} {G o : Nat} {bs0 : List Nat} (hA : Hid (B16 w G o bs0)) (x y : Operand) {bs : List Nat} (hl : Hid (bs.length = 16)) (hgd : op.guard = none) (ho : op.op = .store 23 x y)
    (hx : a.eval x = .pointer (some ⟨G, o, none⟩)) (hy : a.eval y = arr16 bs) (h : ∀ W, Hid (W = w.setCells G o (bs.map fun n => Value.int .u8 ((n : Nat) : Int))) → Hid (B16 W G o bs) → wpList Tryd.prog ops Q rest (a.put op.dst undef) W) : wpList Tryd.prog ops Q (op :: rest) a w := by
  have e1 : (bs.map fun n => Value.int .u8 ((n : Nat) : Int)).length = 16 := by rw [List.length_map, hl.out]
  refine wpList_store_mid hgd 23 x y ho G o (bs.map fun n => Value.int .u8 ((n : Nat) : Int)).toArray hx hy (by rw [List.size_toArray, e1]; exact hA.out.there) (by rw [arr16_size, List.size_toArray, e1]) (all_oneCell_toArray (fun v hv => by obtain ⟨n, _, rfl⟩ := List.mem_map.1 hv; rfl)) (h _ (Lib.hid rfl) (Lib.hid ⟨hl.out, by rw [size_setCells]; exact hA.out.lt, World.rangeAt_setCells_same _ _ _ _ (by rw [e1]; exact hA.out.there), World.there_setCells hA.out.there _ _ _⟩))
/-- Sixteen bytes, given back out of their cells. -/
theorem results_b16 {fn : Func} {a : Tmp} {tmps : Array Value} {W : World} {R : Nat} {bs : List Nat} (h : fn.results = #[.cell a 23]) (ha : tmps.getD a undef = .pointer (some ⟨R, 0, none⟩)) (hA : B16 W R 0 bs) : (results fn tmps).run Tryd.prog W = .ok (arr16 bs) W := by
  have hl : (loadVar 23 ⟨R, 0, none⟩).run Tryd.prog W = .ok (arr16 bs) W :=
    run_loadVar_mid W R 0 23 _ _ hA.range Tryd.underlying23 rfl (by rw [arr16_size, List.length_map, hA.len])
  rw [Array.getD_eq_getD_getElem?] at ha
  simp [results, h, ha, asAddr, hl]
/-- The cells of sixteen zeros. -/
abbrev z16 : Array Value := #[.int .u8 0, .int .u8 0, .int .u8 0, .int .u8 0, .int .u8 0, .int .u8 0, .int .u8 0, .int .u8 0, .int .u8 0, .int .u8 0, .int .u8 0, .int .u8 0, .int .u8 0, .int .u8 0, .int .u8 0, .int .u8 0]
theorem b16_new (w : World) (t : TypeId) (cs : Array Value) (bs : List Nat) (hl : bs.length = 16) (h : cs.toList = bs.map fun n => Value.int .u8 ((n : Nat) : Int)) : B16 (w.alloc (.cells cs t)) w.heap.size 0 bs := by
  have e : ∀ j, cs[j]? = (bs.map fun n => Value.int .u8 ((n : Nat) : Int))[j]? := fun j => by rw [← h, Array.getElem?_toList]
  refine ⟨hl, by simp, fun j v hv => ?_, fun j hj => ⟨?_, World.frozen?_alloc_new _ _ _ _⟩⟩
  · rw [World.cell?_alloc_new, Nat.zero_add, e]; exact hv
  · rw [World.cell?_alloc_new, Nat.zero_add, e, List.getElem?_map, List.getElem?_eq_getElem (by omega)]; rfl
/-- Sixteen bytes of the list. -/
def InB (L : List (Nat × Nat × List Value)) (G o : Nat) (bs : List Nat) : Prop := (G, o, bs.map fun n => Value.int .u8 ((n : Nat) : Int)) ∈ L ∧ bs.length = 16
theorem yields_b16 {ops : Array Oper} {op : Oper} {a : Act} {L : List (Nat × Nat × List Value)} {W : World} {G o : Nat} {bs : List Nat} (hm : Hid (InB L G o bs)) (hw : Region.wanted op (yielded ops a.tmps) = true) (x : Operand) (ho : op.op = .load 23 x)
    (hx : a.eval x = .pointer (some ⟨G, o, none⟩)) : YieldsIf Tryd.prog ops (HeldR L W) op (arr16 bs) a :=
  yieldsIf_load_mid hw 23 x ho G o hx _ _ (fun _ h => h.get hm.out.1) Tryd.underlying23 rfl (by rw [arr16_size, List.length_map, hm.out.2])
end Go.Proofs.YtgbajagacmfcmaaDoor
/- Two arrays of integers, held against each other: they are equal, if all their numbers are. -/
namespace Go.Proofs.YtgbajagacmfcmaaDoor
open Go.RowKit
set_option linter.unusedVariables false
set_option maxRecDepth 20000

theorem run_eqItems_ints (W : World) (d : Nat) {e : TypeId} {k : IntKind} (he : Tryd.prog.plainKey e = true) (hu : Tryd.prog.underlying e = some (.int k)) (zs ys : List Int) : ∀ (is : List Nat), (∀ i ∈ is, i < zs.length ∧ i < ys.length) →
    (Op.eqItems (d + 1) e 1 (zs.map (Value.int k)).toArray (ys.map (Value.int k)).toArray is).run Tryd.prog W = .ok (is.all fun i => zs.getD i 0 == ys.getD i 0) W
  | [], _ => by simp [Op.eqItems]
  | i :: is, h => by
    have hi := h i (by simp)
    have p1 : (part e (zs.map (Value.int k)).toArray (i * 1)).run Tryd.prog W = .ok (.int k (zs.getD i 0)) W := run_part_plain W he (by simp [hi.1])
    have p2 : (part e (ys.map (Value.int k)).toArray (i * 1)).run Tryd.prog W = .ok (.int k (ys.getD i 0)) W := run_part_plain W he (by simp [hi.2])
    have p3 := run_equalIn_int (P := Tryd.prog) W d e k k (zs.getD i 0) (ys.getD i 0) hu
    have ih := run_eqItems_ints W d he hu zs ys is (fun j hj => h j (by simp [hj]))
    simp only [Op.eqItems, Sem.run_bind, p1, p2, p3, Result.andThen_ok, List.all_cons]
    cases zs.getD i 0 == ys.getD i 0 with
    | false => simp
    | true => simpa using ih
theorem run_eq_ints (W : World) {t e : TypeId} {n : Nat} {k : IntKind} {i : TypeInfo} (ht : Tryd.prog.underlying t = some (.array n e)) (he : Tryd.prog.plainKey e = true) (hu : Tryd.prog.underlying e = some (.int k)) (hi : Tryd.prog.info? e = some i) (hc : Tryd.prog.cellsOf e = 1)
    (zs ys : List Int) (hz : zs.length = n) (hy : ys.length = n) :
    (Op.equalIn 10000 t (.agg (zs.map (Value.int k)).toArray) (.agg (ys.map (Value.int k)).toArray)).run Tryd.prog W = .ok (decide (zs = ys)) W := by
  rw [run_equalIn_array W 9999 _ _ ht hi, hc, run_eqItems_ints W 9998 he hu zs ys _ (fun j hj => by rw [List.mem_range] at hj; omega)]
  congr 1
  rw [Bool.eq_iff_iff]
  simp only [List.all_eq_true, List.mem_range, beq_iff_eq, decide_eq_true_eq]
  constructor
  · intro h
    apply List.ext_getElem (by omega)
    intro j h1 h2
    have := h j (by omega)
    rw [List.getD_eq_getElem?_getD, List.getD_eq_getElem?_getD, List.getElem?_eq_getElem h1, List.getElem?_eq_getElem h2] at this
    exact this
  · intro h j _
    rw [h]
theorem eq4_true (a b c d : Nat) (W : World) : (Op.equalIn 10000 95 (.agg #[.int .u8 (a : Int), .int .u8 (b : Int), .int .u8 (c : Int), .int .u8 (d : Int)]) (.agg #[.int .u8 (a : Int), .int .u8 (b : Int), .int .u8 (c : Int), .int .u8 (d : Int)])).run Tryd.prog W = .ok true W := by
  obtain ⟨i, hi⟩ : ∃ i, Tryd.prog.info? 5 = some i := ⟨_, rfl⟩
  have := run_eq_ints W (k := .u8) Tryd.underlying95 (by kernel_rfl) Tryd.underlying5 hi (by kernel_rfl) [(a : Int), b, c, d] [(a : Int), b, c, d] rfl rfl
  rw [show decide ([(a : Int), b, c, d] = [(a : Int), b, c, d]) = true by simp] at this
  exact this
theorem eq4_false (a b c d a' b' c' d' : Nat) (h : ¬ (a = a' ∧ b = b' ∧ c = c' ∧ d = d')) (W : World) : (Op.equalIn 10000 95 (.agg #[.int .u8 (a : Int), .int .u8 (b : Int), .int .u8 (c : Int), .int .u8 (d : Int)]) (.agg #[.int .u8 (a' : Int), .int .u8 (b' : Int), .int .u8 (c' : Int), .int .u8 (d' : Int)])).run Tryd.prog W = .ok false W := by
  obtain ⟨i, hi⟩ : ∃ i, Tryd.prog.info? 5 = some i := ⟨_, rfl⟩
  have := run_eq_ints W (k := .u8) Tryd.underlying95 (by kernel_rfl) Tryd.underlying5 hi (by kernel_rfl) [(a : Int), b, c, d] [(a' : Int), b', c', d'] rfl rfl
  rw [show decide ([(a : Int), b, c, d] = [(a' : Int), b', c', d']) = false by
    rw [decide_eq_false_iff_not]
    intro e
    simp only [List.cons.injEq, Int.natCast_inj, and_true] at e
    exact h e] at this
  exact this
theorem eq8_true (x0 x1 x2 x3 x4 x5 x6 x7 : Nat) (W : World) : (Op.equalIn 10000 76 (.agg #[.int .u16 (x0 : Int), .int .u16 (x1 : Int), .int .u16 (x2 : Int), .int .u16 (x3 : Int), .int .u16 (x4 : Int), .int .u16 (x5 : Int), .int .u16 (x6 : Int), .int .u16 (x7 : Int)]) (.agg #[.int .u16 (x0 : Int), .int .u16 (x1 : Int), .int .u16 (x2 : Int), .int .u16 (x3 : Int), .int .u16 (x4 : Int), .int .u16 (x5 : Int), .int .u16 (x6 : Int), .int .u16 (x7 : Int)])).run Tryd.prog W = .ok true W := by
  obtain ⟨i, hi⟩ : ∃ i, Tryd.prog.info? 75 = some i := ⟨_, rfl⟩
  have := run_eq_ints W (k := .u16) Tryd.underlying76 (by kernel_rfl) Tryd.underlying75 hi (by kernel_rfl) [(x0 : Int), x1, x2, x3, x4, x5, x6, x7] [(x0 : Int), x1, x2, x3, x4, x5, x6, x7] rfl rfl
  rw [show decide ([(x0 : Int), x1, x2, x3, x4, x5, x6, x7] = [(x0 : Int), x1, x2, x3, x4, x5, x6, x7]) = true by simp] at this
  exact this
end Go.Proofs.YtgbajagacmfcmaaDoor
/- Two addresses, held against each other: they are equal, if their families are and all their bytes. -/
namespace Go.Proofs.YtgbajagacmfcmaaDoor
open Go.RowKit
set_option linter.unusedVariables false
set_option maxRecDepth 20000

theorem run_eq_ints_at (d : Nat) (W : World) {t e : TypeId} {n : Nat} {k : IntKind} {i : TypeInfo} (ht : Tryd.prog.underlying t = some (.array n e)) (he : Tryd.prog.plainKey e = true) (hu : Tryd.prog.underlying e = some (.int k)) (hi : Tryd.prog.info? e = some i) (hc : Tryd.prog.cellsOf e = 1)
    (zs ys : List Int) (hz : zs.length = n) (hy : ys.length = n) :
    (Op.equalIn (d + 2) t (.agg (zs.map (Value.int k)).toArray) (.agg (ys.map (Value.int k)).toArray)).run Tryd.prog W = .ok (decide (zs = ys)) W := by
  rw [run_equalIn_array W (d + 1) _ _ ht hi, hc, run_eqItems_ints W d he hu zs ys _ (fun j hj => by rw [List.mem_range] at hj; omega)]
  congr 1
  rw [Bool.eq_iff_iff]
  simp only [List.all_eq_true, List.mem_range, beq_iff_eq, decide_eq_true_eq]
  constructor
  · intro h
    apply List.ext_getElem (by omega)
    intro j h1 h2
    have := h j (by omega)
    rw [List.getD_eq_getElem?_getD, List.getD_eq_getElem?_getD, List.getElem?_eq_getElem h1, List.getElem?_eq_getElem h2] at this
    exact this
  · intro h j _
    rw [h]
theorem bytes_of (xs : List Nat) : (xs.map fun n => Value.int .u8 ((n : Nat) : Int)) = (xs.map fun n : Nat => (n : Int)).map (Value.int .u8) := by simp
theorem casts_inj {xs ys : List Nat} : (xs.map fun n : Nat => (n : Int)) = (ys.map fun n : Nat => (n : Int)) ↔ xs = ys := by
  constructor
  · intro h
    exact List.map_inj_right (fun _ _ e => by exact_mod_cast e) |>.1 h
  · rintro rfl; rfl
theorem part_bytes (W : World) (f : Int) (xs : List Nat) (hx : xs.length = 16) : (part 23 (Value.int .i64 f :: xs.map fun n => Value.int .u8 ((n : Nat) : Int)).toArray 1).run Tryd.prog W = .ok (.agg (xs.map fun n => Value.int .u8 ((n : Nat) : Int)).toArray) W := by
  obtain ⟨i, hi, hs⟩ : ∃ i, Tryd.prog.info? 23 = some i ∧ i.size = 16 := ⟨_, rfl, by kernel_rfl⟩
  have h2 : (isAgg 23).run Tryd.prog W = .ok true W := by
    unfold isAgg
    rw [Sem.run_bind, run_underlying Tryd.underlying23 W]
    simp
  have h3 : (sizeOf 23).run Tryd.prog W = .ok 16 W := by simp [sizeOf, typeInfo, hi, hs]
  simp only [part, Sem.run_bind, h2, Result.andThen_ok, if_true, h3, Sem.run_pure]
  congr 2
  apply Array.ext'
  simp
  exact List.take_of_length_le (by rw [List.length_map, hx]; exact Nat.le_refl _)
theorem plainK_int : Tryd.prog.plainKey 3 = true := by kernel_rfl
theorem plainK_u8 : Tryd.prog.plainKey 5 = true := by kernel_rfl
theorem cells_u8 : Tryd.prog.cellsOf 5 = 1 := by kernel_rfl
theorem addr_fields : Tryd.prog.fieldsOf 25 = #[{ name := "Fam", type := 3, offset := 0, embedded := false, tag := "", pkgPath := "", byteOffset := 0 }, { name := "B", type := 23, offset := 1, embedded := false, tag := "", pkgPath := "", byteOffset := 8 }] := by simp only [Program.fieldsOf, Tryd.underlying25]
theorem nm1 : ("Fam" = "_") = False := by simp
theorem nm2 : ("B" = "_") = False := by simp
theorem st (d : Nat) (xs ys : Array Value) (W : World) : (Op.equalIn (d + 3) 25 (.agg xs) (.agg ys)).run Tryd.prog W = (Op.eqFields (d + 2) xs ys (Tryd.prog.fieldsOf 25).toList).run Tryd.prog W :=
  run_equalIn_struct W (d + 2) _ _ _ (by rw [addr_fields]; exact Tryd.underlying25) Tryd.stoodInHeld25
theorem part_fam (W : World) (f : Int) (xs : List Nat) : (part 3 (Value.int .i64 f :: xs.map fun n => Value.int .u8 ((n : Nat) : Int)).toArray 0).run Tryd.prog W = .ok (.int .i64 f) W := run_part_plain W plainK_int (by simp)
theorem eq_fam (d : Nat) (f g : Int) (W : World) : (Op.equalIn (d + 2) 3 (.int .i64 f) (.int .i64 g)).run Tryd.prog W = .ok (f == g) W := run_equalIn_int (P := Tryd.prog) W (d + 1) 3 .i64 .i64 f g Tryd.underlying3
theorem eq_arr16 (d : Nat) (xs ys : List Nat) (W : World) (hx : xs.length = 16) (hy : ys.length = 16) : (Op.equalIn (d + 2) 23 (.agg (xs.map fun n => Value.int .u8 ((n : Nat) : Int)).toArray) (.agg (ys.map fun n => Value.int .u8 ((n : Nat) : Int)).toArray)).run Tryd.prog W = .ok (decide (xs = ys)) W := by
  obtain ⟨i, hi⟩ : ∃ i, Tryd.prog.info? 5 = some i := ⟨_, rfl⟩
  have p6 := run_eq_ints_at d W (k := .u8) Tryd.underlying23 plainK_u8 Tryd.underlying5 hi cells_u8 (xs.map fun n : Nat => (n : Int)) (ys.map fun n : Nat => (n : Int)) (by simpa using hx) (by simpa using hy)
  rw [← bytes_of, ← bytes_of, show decide ((xs.map fun n : Nat => (n : Int)) = (ys.map fun n : Nat => (n : Int))) = decide (xs = ys) from decide_eq_decide.2 casts_inj] at p6
  exact p6
theorem two_fields (P : Program) (W : World) (D : Nat) (X Y : Array Value) (t1 t2 : TypeId) (a1 b1 a2 b2 : Value) (r1 r2 : Bool)
    (h1 : (part t1 X 0).run P W = .ok a1 W) (h2 : (part t1 Y 0).run P W = .ok b1 W) (h3 : (Op.equalIn D t1 a1 b1).run P W = .ok r1 W)
    (h4 : (part t2 X 1).run P W = .ok a2 W) (h5 : (part t2 Y 1).run P W = .ok b2 W) (h6 : (Op.equalIn D t2 a2 b2).run P W = .ok r2 W) :
    (Op.eqFields D X Y [{ name := "Fam", type := t1, offset := 0, embedded := false, tag := "", pkgPath := "", byteOffset := 0 }, { name := "B", type := t2, offset := 1, embedded := false, tag := "", pkgPath := "", byteOffset := 8 }]).run P W = .ok (r1 && r2) W := by
  simp only [Op.eqFields, ne_eq, nm1, nm2, not_false_eq_true, if_true, Sem.run_bind, h1, h2, h3, Result.andThen_ok, Sem.run_ite, h4, h5, h6, Sem.run_pure]
  cases r1 <;> cases r2 <;> rfl
theorem eq_addr_at (d : Nat) (f g : Int) (xs ys : List Nat) (W : World) (hx : xs.length = 16) (hy : ys.length = 16) : (Op.equalIn (d + 3) 25 (addrV f xs) (addrV g ys)).run Tryd.prog W = .ok (decide (f = g ∧ xs = ys)) W := by
  rw [addrV, addrV, st, addr_fields]
  refine (two_fields Tryd.prog W (d + 2) _ _ 3 23 _ _ _ _ _ _ (part_fam W f xs) (part_fam W g ys) (eq_fam d f g W) (part_bytes W f xs hx) (part_bytes W g ys hy) (eq_arr16 d xs ys W hx hy)).trans ?_
  congr 1
  by_cases h1 : f = g <;> by_cases h2 : xs = ys <;> simp [h1, h2]
theorem eq_addr (f g : Int) (xs ys : List Nat) (W : World) (hx : xs.length = 16) (hy : ys.length = 16) : (Op.equalIn 10000 25 (addrV f xs) (addrV g ys)).run Tryd.prog W = .ok (decide (f = g ∧ xs = ys)) W :=
  eq_addr_at 9997 f g xs ys W hx hy
end Go.Proofs.YtgbajagacmfcmaaDoor
/- Two addresses held against each other, as a walk meets it. -/
namespace Go.Proofs.YtgbajagacmfcmaaDoor
open Go.RowKit
set_option linter.unusedVariables false
set_option maxRecDepth 20000

/-- No interface lies inside an address. -/
theorem guard_addr (op : BinOp) (x y : Operand) (f g : Int) (xs ys : List Nat) (W : World) : (eqGuard op 25 x y (addrV f xs) (addrV g ys)).run Tryd.prog W = .ok () W := run_eqGuard_agg _ _ _ _ _ _ _ Tryd.eqGuardType25
theorem guard_zero (op : BinOp) (x y : Operand) (f : Int) (xs : List Nat) (W : World) : (eqGuard op 25 x y (addrV f xs) (.agg zA)).run Tryd.prog W = .ok () W := run_eqGuard_agg _ _ _ _ _ _ _ Tryd.eqGuardType25
theorem guard_arr16 (op : BinOp) (x y : Operand) (xs ys : List Nat) (W : World) : (eqGuard op 23 x y (arr16 xs) (arr16 ys)).run Tryd.prog W = .ok () W := run_eqGuard_agg _ _ _ _ _ _ _ Tryd.eqGuardType23
theorem run_eq_addr (f g : Int) (xs ys : List Nat) (W : World) (hx : xs.length = 16) (hy : ys.length = 16) : (binOp .eql 25 (addrV f xs) (addrV g ys)).run Tryd.prog W = .ok (.bool (decide (f = g ∧ xs = ys))) W := by
  have h := eq_addr f g xs ys W hx hy
  unfold addrV at h ⊢
  rw [run_eql_struct, h]
  rfl
theorem run_neq_addr (f g : Int) (xs ys : List Nat) (W : World) (hx : xs.length = 16) (hy : ys.length = 16) : (binOp .neq 25 (addrV f xs) (addrV g ys)).run Tryd.prog W = .ok (.bool (!decide (f = g ∧ xs = ys))) W := by
  have h := eq_addr f g xs ys W hx hy
  unfold addrV at h ⊢
  rw [run_neq_struct, h]
  rfl
theorem run_same_addr (f : Int) (xs : List Nat) (W : World) (hx : xs.length = 16) : (binOp .eql 25 (addrV f xs) (addrV f xs)).run Tryd.prog W = .ok (.bool true) W := by
  rw [run_eq_addr f f xs xs W hx hx, decide_eq_true ⟨rfl, rfl⟩]
theorem run_nsame_addr (f : Int) (xs : List Nat) (W : World) (hx : xs.length = 16) : (binOp .neq 25 (addrV f xs) (addrV f xs)).run Tryd.prog W = .ok (.bool false) W := by
  rw [run_neq_addr f f xs xs W hx hx, decide_eq_true ⟨rfl, rfl⟩]
  rfl
theorem run_zero_addr (f : Int) (xs : List Nat) (W : World) (hx : xs.length = 16) : (binOp .eql 25 (addrV f xs) (.agg zA)).run Tryd.prog W = .ok (.bool (decide (f = 0 ∧ xs = List.replicate 16 0))) W :=
  run_eq_addr f 0 xs (List.replicate 16 0) W hx rfl
theorem run_eq_arr16 (xs ys : List Nat) (W : World) (hx : xs.length = 16) (hy : ys.length = 16) : (binOp .eql 23 (arr16 xs) (arr16 ys)).run Tryd.prog W = .ok (.bool (decide (xs = ys))) W := by
  have h := eq_arr16 9998 xs ys W hx hy
  unfold arr16
  rw [run_eql_struct, h]
  rfl
theorem run_neq_arr16 (xs ys : List Nat) (W : World) (hx : xs.length = 16) (hy : ys.length = 16) : (binOp .neq 23 (arr16 xs) (arr16 ys)).run Tryd.prog W = .ok (.bool (!decide (xs = ys))) W := by
  have h := eq_arr16 9998 xs ys W hx hy
  unfold arr16
  rw [run_neq_struct, h]
  rfl
end Go.Proofs.YtgbajagacmfcmaaDoor
/- A prefix (api.Prefix: an address, and its bits: 18 cells) in memory: read and stored whole, given back, held over calls, held against another one. -/
namespace Go.Proofs.YtgbajagacmfcmaaDoor
open Go.RowKit
set_option linter.unusedVariables false
set_option maxRecDepth 20000

/-- The cells of a prefix. -/
def prefL (f : Int) (bs : List Nat) (n : Int) : List Value := addrL f bs ++ [Value.int .i64 n]
def prefV (f : Int) (bs : List Nat) (n : Int) : Value := .agg (prefL f bs n).toArray
theorem prefL_len (f : Int) (bs : List Nat) (n : Int) (h : bs.length = 16) : (prefL f bs n).length = 18 := by simp [prefL, addrL_len f bs h]
theorem prefL_one (f : Int) (bs : List Nat) (n : Int) : (prefL f bs n).toArray.all (·.oneCell') = true := all_oneCell_toArray fun v hv => by
  rcases List.mem_append.1 hv with hv | hv
  · rcases List.mem_cons.1 hv with rfl | hv
    · rfl
    · obtain ⟨n, _, rfl⟩ := List.mem_map.1 hv
      rfl
  · rw [List.mem_singleton] at hv; rw [hv]; rfl
/-- A prefix lies at G. -/
structure PrefAt (w : World) (G : Nat) (f : Int) (bs : List Nat) (n : Int) : Prop where
  addr : AddrAt w G f bs
  bits : w.cell? ⟨G, 17, none⟩ = some (.int .i64 n)
  live : w.frozen? ⟨G, 17, none⟩ = false
section
variable {w w' : World} {G : Nat} {f : Int} {bs : List Nat} {n : Int}
theorem PrefAt.below (h : PrefAt w G f bs n) (hb : Below w.heap.size w w') : PrefAt w' G f bs n :=
  ⟨h.addr.below hb, by rw [hb.cell (p := ⟨G, 17, none⟩) h.addr.lt]; exact h.bits, by rw [hb.frozen (p := ⟨G, 17, none⟩) h.addr.lt]; exact h.live⟩
theorem PrefAt.alloc (h : PrefAt w G f bs n) (b : Obj) : PrefAt (w.alloc b) G f bs n := h.below ((Below.refl _ _).alloc (Nat.le_refl _) _)
theorem PrefAt.range (h : PrefAt w G f bs n) : w.rangeAt G 0 (prefL f bs n) := by
  intro j v hv
  have hl := addrL_len f bs h.addr.len
  unfold prefL at hv
  by_cases hj : j < 17
  · rw [List.getElem?_append_left (by omega)] at hv
    exact h.addr.range j v hv
  · rw [List.getElem?_append_right (by omega), hl] at hv
    have e : j = 17 := by
      apply Classical.byContradiction
      intro h2
      rw [List.getElem?_eq_none (by simp; omega)] at hv
      cases hv
    subst e
    rw [Nat.zero_add, h.bits, ← hv]
    rfl
theorem PrefAt.there (h : PrefAt w G f bs n) : w.there G 0 18 := by
  intro j hj
  by_cases h1 : j < 17
  · exact h.addr.there j h1
  · obtain rfl : j = 17 := by omega
    rw [Nat.zero_add]
    exact ⟨by rw [h.bits]; rfl, h.live⟩
theorem PrefAt.ofRange (hl : bs.length = 16) (hlt : G < w.heap.size) (h : w.rangeAt G 0 (prefL f bs n)) (ht : w.there G 0 18) : PrefAt w G f bs n := by
  refine ⟨AddrAt.ofRange hl hlt (fun j v hv => ?_) (fun j hj => ht j (by omega)), ?_, ?_⟩
  · have hj : j < (addrL f bs).length := by
      apply Classical.byContradiction
      intro h2
      rw [List.getElem?_eq_none (by omega)] at hv
      cases hv
    exact h j v (by unfold prefL; rw [List.getElem?_append_left hj]; exact hv)
  · have := h 17 (.int .i64 n) (by unfold prefL; rw [List.getElem?_append_right (by rw [addrL_len f bs hl]; exact Nat.le_refl _), addrL_len f bs hl]; rfl)
    rw [Nat.zero_add] at this
    exact this
  · have := (ht 17 (by decide)).2
    rw [Nat.zero_add] at this
    exact this
theorem PrefAt.stored {f0 : Int} {bs0 : List Nat} {n0 : Int} (h : PrefAt w G f0 bs0 n0) (f : Int) (bs : List Nat) (n : Int) (hl : bs.length = 16) : PrefAt (w.setCells G 0 (prefL f bs n)) G f bs n := by
  have ht : w.there G 0 (prefL f bs n).length := by rw [prefL_len f bs n hl]; exact h.there
  exact PrefAt.ofRange hl (by rw [size_setCells]; exact h.addr.lt) (World.rangeAt_setCells_same w G 0 _ ht) (World.there_setCells h.there G 0 _)
theorem PrefAt.apart (h : PrefAt w G f bs n) {G' o : Nat} (hG : G ≠ G') (vs : List Value) : PrefAt (w.setCells G' o vs) G f bs n :=
  PrefAt.ofRange h.addr.len (by rw [size_setCells]; exact h.addr.lt) (World.rangeAt_setCells_apart h.range _ _ _ (.inl hG)) (World.there_setCells h.there _ _ _)
/-- Its address alone is stored anew. -/
theorem PrefAt.storedAddr (h : PrefAt w G f bs n) (g : Int) (cs : List Nat) (hl : cs.length = 16) : PrefAt (w.setCells G 0 (addrL g cs)) G g cs n := by
  refine ⟨h.addr.stored g cs hl, ?_, ?_⟩
  · have hr : w.rangeAt G 17 [Value.int .i64 n] := by
      intro j v hv
      cases j with
      | zero => rw [Nat.add_zero, h.bits, ← hv]; rfl
      | succ j => simp at hv
    have h2 := World.rangeAt_setCells_apart hr G 0 (addrL g cs) (.inr (.inr (by rw [addrL_len g cs hl]; exact Nat.le_refl _)))
    exact h2 0 _ rfl
  · exact (World.there_setCells h.there G 0 (addrL g cs) 17 (by decide)).2
end
theorem PrefAt.of (w : World) (t : TypeId) (cs : Array Value) (f : Int) (bs : List Nat) (n : Int) (h16 : bs.length = 16) (h : cs.toList = prefL f bs n) : PrefAt (w.alloc (.cells cs t)) w.heap.size f bs n := by
  have e : ∀ j, cs[j]? = (prefL f bs n)[j]? := fun j => by rw [← h, Array.getElem?_toList]
  refine PrefAt.ofRange h16 (by simp) (fun j v hv => ?_) (fun j hj => ⟨?_, World.frozen?_alloc_new _ _ _ _⟩)
  · rw [World.cell?_alloc_new, Nat.zero_add, e]; exact hv
  · rw [World.cell?_alloc_new, Nat.zero_add, e, List.getElem?_eq_getElem (by rw [prefL_len f bs n h16]; exact hj)]; rfl
theorem pref_size : (Tryd.prog.info? 27).map (·.size) = some 18 := by kernel_rfl
/-- A prefix that comes in, boxed. -/
theorem pref_boxed (f : Int) (bs : List Nat) (n : Int) (w : World) (h16 : bs.length = 16) :
    ∃ cs : Array Value, prefV f bs n = .agg cs ∧ Hid (PrefAt (w.alloc (.cells cs 27)) w.heap.size f bs n) ∧ Hid (Below w.heap.size w (w.alloc (.cells cs 27))) :=
  ⟨_, rfl, Lib.hid (PrefAt.of w _ _ f bs n h16 rfl), Lib.hid ((Below.refl _ _).alloc (Nat.le_refl _) _)⟩
/-- The cells of a prefix of zeros. -/
abbrev zP : Array Value := #[.int .i64 0, .int .u8 0, .int .u8 0, .int .u8 0, .int .u8 0, .int .u8 0, .int .u8 0, .int .u8 0, .int .u8 0, .int .u8 0, .int .u8 0, .int .u8 0, .int .u8 0, .int .u8 0, .int .u8 0, .int .u8 0, .int .u8 0, .int .i64 0]
theorem pref_zeroed (w : World) : PrefAt (w.alloc (.cells zP 27)) w.heap.size 0 (List.replicate 16 0) 0 := PrefAt.of w _ _ 0 _ 0 rfl rfl
theorem loadVar_pref {w : World} {G : Nat} {f : Int} {bs : List Nat} {n : Int} (h : PrefAt w G f bs n) : (loadVar 27 ⟨G, 0, none⟩).run Tryd.prog w = .ok (prefV f bs n) w :=
  run_loadVar_mid w G 0 27 (prefL f bs n) _ h.range Tryd.underlying27 rfl (by rw [pref_size, prefL_len f bs n h.addr.len])
/-- A prefix, loaded whole, guarded or not. -/
theorem load_pref_g {ops : Array Oper} {rest : List Oper} {op : Oper} {a : Act} {w : World} {Q : Exit → Act → World → Prop} {G : Nat} {f : Int} {bs : List Nat} {n : Int} (hA : Hid (PrefAt w G f bs n)) (x : Operand) (hw : Region.wanted op (yielded ops a.tmps) = true) (ho : op.op = .load 27 x)
    (hx : a.eval x = .pointer (some ⟨G, 0, none⟩)) (h : wpList Tryd.prog ops Q rest (a.put op.dst (prefV f bs n)) w) : wpList Tryd.prog ops Q (op :: rest) a w :=
  wpList_load_row hw 27 x ho G 0 hx (prefL f bs n) _ hA.out.range Tryd.underlying27 rfl (by rw [pref_size, prefL_len f bs n hA.out.addr.len]) h
/-- A prefix, stored whole. -/
theorem store_pref {ops : Array Oper} {rest : List Oper} {op : Oper} {a : Act} {w : World} {Q : Exit → Act → World → Prop} {G : Nat} {g : Int} {bs0 : List Nat} {n0 : Int} (hA : Hid (PrefAt w G g bs0 n0)) (x y : Operand) {f : Int} {bs : List Nat} {n : Int} (hl : Hid (bs.length = 16)) (hgd : op.guard = none) (ho : op.op = .store 27 x y)
    (hx : a.eval x = .pointer (some ⟨G, 0, none⟩)) (hy : a.eval y = prefV f bs n) (h : ∀ W, Hid (W = w.setCells G 0 (prefL f bs n)) → Hid (PrefAt W G f bs n) → wpList Tryd.prog ops Q rest (a.put op.dst undef) W) : wpList Tryd.prog ops Q (op :: rest) a w :=
  wpList_store_mid hgd 27 x y ho G 0 (prefL f bs n).toArray hx hy (by rw [List.size_toArray, prefL_len f bs n hl.out]; exact hA.out.there) (by rw [pref_size, List.size_toArray, prefL_len f bs n hl.out]) (prefL_one f bs n) (h _ (Lib.hid rfl) (Lib.hid (hA.out.stored f bs n hl.out)))
/-- A prefix's address, stored anew. -/
theorem store_pref_addr {ops : Array Oper} {rest : List Oper} {op : Oper} {a : Act} {w : World} {Q : Exit → Act → World → Prop} {G : Nat} {g : Int} {bs0 : List Nat} {n : Int} (hA : Hid (PrefAt w G g bs0 n)) (x y : Operand) {f : Int} {bs : List Nat} (hl : Hid (bs.length = 16)) (hgd : op.guard = none) (ho : op.op = .store 25 x y)
    (hx : a.eval x = .pointer (some ⟨G, 0, none⟩)) (hy : a.eval y = addrV f bs) (h : ∀ W, Hid (W = w.setCells G 0 (addrL f bs)) → Hid (PrefAt W G f bs n) → wpList Tryd.prog ops Q rest (a.put op.dst undef) W) : wpList Tryd.prog ops Q (op :: rest) a w :=
  wpList_store_mid hgd 25 x y ho G 0 (addrL f bs).toArray hx hy (by rw [List.size_toArray, addrL_len f bs hl.out]; exact hA.out.addr.there) (by rw [addr_size, List.size_toArray, addrL_len f bs hl.out]) (addrL_one f bs) (h _ (Lib.hid rfl) (Lib.hid (hA.out.storedAddr f bs hl.out)))
/-- A prefix, given back out of its cells. -/
theorem results_pref {fn : Func} {a : Tmp} {tmps : Array Value} {W : World} {R : Nat} {f : Int} {bs : List Nat} {n : Int} (h : fn.results = #[.cell a 27]) (ha : tmps.getD a undef = .pointer (some ⟨R, 0, none⟩)) (hA : PrefAt W R f bs n) : (results fn tmps).run Tryd.prog W = .ok (prefV f bs n) W := by
  rw [Array.getD_eq_getD_getElem?] at ha
  simp [results, h, ha, asAddr, loadVar_pref hA]
theorem results_pref2 {fn : Func} {a t : Tmp} {tmps : Array Value} {W : World} {R : Nat} {f : Int} {bs : List Nat} {n : Int} (h : fn.results = #[.cell a 27, .tmp t]) (ha : tmps.getD a undef = .pointer (some ⟨R, 0, none⟩)) (hA : PrefAt W R f bs n) : (results fn tmps).run Tryd.prog W = .ok (.tuple #[prefV f bs n, tmps.getD t undef]) W := by
  rw [Array.getD_eq_getD_getElem?] at ha
  simp [results, h, ha, asAddr, loadVar_pref hA]
/-- Held over a region: the prefix, and its address. -/
theorem HeldR.pref {L : List (Nat × Nat × List Value)} {W w : World} {G : Nat} {f : Int} {bs : List Nat} {n : Int} (h : HeldR L W w) (hA : PrefAt w G f bs n) : HeldR ((G, 0, prefL f bs n) :: (G, 0, addrL f bs) :: L) W w := (h.addr hA.addr).cons hA.range hA.addr.lt
def InP (L : List (Nat × Nat × List Value)) (G : Nat) (f : Int) (bs : List Nat) (n : Int) : Prop := (G, 0, prefL f bs n) ∈ L ∧ bs.length = 16
theorem yields_pref {ops : Array Oper} {op : Oper} {a : Act} {L : List (Nat × Nat × List Value)} {W : World} {G : Nat} {f : Int} {bs : List Nat} {n : Int} (hm : Hid (InP L G f bs n)) (hw : Region.wanted op (yielded ops a.tmps) = true) (x : Operand) (ho : op.op = .load 27 x)
    (hx : a.eval x = .pointer (some ⟨G, 0, none⟩)) : YieldsIf Tryd.prog ops (HeldR L W) op (prefV f bs n) a :=
  yieldsIf_load_mid hw 27 x ho G 0 hx (prefL f bs n) _ (fun _ h => h.get hm.out.1) Tryd.underlying27 rfl (by rw [pref_size, prefL_len f bs n hm.out.2])
theorem bitsR {L : List (Nat × Nat × List Value)} {G : Nat} {f : Int} {bs : List Nat} {n : Int} (h : InP L G f bs n) (W : World) : CellR L W G 17 (.int .i64 n) := fun w hw => hw.cell h.1 17 _ (by
  unfold prefL; rw [List.getElem?_append_right (by rw [addrL_len f bs h.2]; exact Nat.le_refl _), addrL_len f bs h.2]; rfl)
theorem famPR {L : List (Nat × Nat × List Value)} {G : Nat} {f : Int} {bs : List Nat} {n : Int} (h : InP L G f bs n) (W : World) : CellR L W G 0 (.int .i64 f) := fun w hw => hw.cell h.1 0 _ rfl
/-- One operation alone may come up, and it is wanted. -/
theorem AllReadyH.one {P : Program} {md : Region.Mode} {ops : Array Oper} {Q : Exit → Act → World → Prop} {S : World → Prop} {fuel : Nat} {listed : Array Bool} {a : Act} {w : World} {i : Nat} {o : Oper} (ho : ops[i]? = some o) (hw : Region.wanted o (yielded ops a.tmps) = true)
    (h : ∀ K' : Act → World → Prop, Shut (∀ a w, S w → (S w → wpAnyH P md ops Q S fuel (listed.setIfInBounds i true) a w) → K' a w) → Oper.wp P o a w K' Q) : AllReadyH P md ops Q S fuel listed a w [i] :=
  AllReadyH.cons ho (fun K hK => by rw [if_pos hw]; exact h K hK) AllReadyH.nil
/-- A store into a block that is none of the list's, and newer than W. -/
theorem HeldR.store {L : List (Nat × Nat × List Value)} {W w : World} (h : HeldR L W w) {R o : Nat} (vs : List Value) (hR : W.heap.size ≤ R) (hn : ∀ x ∈ L, x.1 ≠ R) : HeldR L W (w.setCells R o vs) :=
  ⟨fun x hx => ⟨World.rangeAt_setCells_apart (h.1 x hx).1 _ _ _ (.inl (hn x hx)), by rw [size_setCells]; exact (h.1 x hx).2⟩, below_cells hR _ _ _ h.2⟩
theorem wp_store_pref {op : Oper} {a : Act} {w : World} {K : Act → World → Prop} {Q : Exit → Act → World → Prop} {G : Nat} {g : Int} {bs0 : List Nat} {n0 : Int} (hA : Hid (PrefAt w G g bs0 n0)) (x y : Operand) {f : Int} {bs : List Nat} {n : Int} (hl : Hid (bs.length = 16)) (ho : op.op = .store 27 x y)
    (hx : a.eval x = .pointer (some ⟨G, 0, none⟩)) (hy : a.eval y = prefV f bs n) (h : Hid (PrefAt (w.setCells G 0 (prefL f bs n)) G f bs n) → K (a.put op.dst undef) (w.setCells G 0 (prefL f bs n))) : op.wp Tryd.prog a w K Q :=
  wp_store_mid 27 x y ho G 0 (prefL f bs n).toArray hx hy (by rw [List.size_toArray, prefL_len f bs n hl.out]; exact hA.out.there) (by rw [pref_size, List.size_toArray, prefL_len f bs n hl.out]) (prefL_one f bs n) (h (Lib.hid (hA.out.stored f bs n hl.out)))
/-- Two prefixes, held against each other. -/
theorem pref_fields : Tryd.prog.fieldsOf 27 = #[{ name := "Addr", type := 25, offset := 0, embedded := false, tag := "", pkgPath := "", byteOffset := 0 }, { name := "Bits", type := 3, offset := 17, embedded := false, tag := "", pkgPath := "", byteOffset := 24 }] := by simp only [Program.fieldsOf, Tryd.underlying27]
theorem nm3 : ("Addr" = "_") = False := by simp
theorem nm4 : ("Bits" = "_") = False := by simp
theorem stP (d : Nat) (xs ys : Array Value) (W : World) : (Op.equalIn (d + 4) 27 (.agg xs) (.agg ys)).run Tryd.prog W = (Op.eqFields (d + 3) xs ys (Tryd.prog.fieldsOf 27).toList).run Tryd.prog W :=
  run_equalIn_struct W (d + 3) _ _ _ (by rw [pref_fields]; exact Tryd.underlying27) Tryd.stoodInHeld27
theorem part_addr (W : World) (f : Int) (xs : List Nat) (n : Int) (hx : xs.length = 16) : (part 25 (prefL f xs n).toArray 0).run Tryd.prog W = .ok (addrV f xs) W := by
  obtain ⟨i, hi, hs⟩ : ∃ i, Tryd.prog.info? 25 = some i ∧ i.size = 17 := ⟨_, rfl, by kernel_rfl⟩
  have h2 : (isAgg 25).run Tryd.prog W = .ok true W := by
    unfold isAgg
    rw [Sem.run_bind, run_underlying Tryd.underlying25 W]
    simp
  have h3 : (sizeOf 25).run Tryd.prog W = .ok 17 W := by simp [sizeOf, typeInfo, hi, hs]
  simp only [part, Sem.run_bind, h2, Result.andThen_ok, if_true, h3, Sem.run_pure]
  rw [addrV_L]
  congr 2
  apply Array.ext'
  simp only [Array.toList_extract, List.extract_eq_take_drop]
  show ((addrL f xs ++ [Value.int .i64 n]).drop 0).take 17 = addrL f xs
  rw [List.drop_zero, List.take_append_of_le_length (by rw [addrL_len f xs hx]; exact Nat.le_refl _), List.take_of_length_le (by rw [addrL_len f xs hx]; exact Nat.le_refl _)]
theorem part_bits (W : World) (f : Int) (xs : List Nat) (n : Int) (hx : xs.length = 16) : (part 3 (prefL f xs n).toArray 17).run Tryd.prog W = .ok (.int .i64 n) W := run_part_plain W plainK_int (by
  rw [List.getElem?_toArray]
  unfold prefL; rw [List.getElem?_append_right (by rw [addrL_len f xs hx]; exact Nat.le_refl _), addrL_len f xs hx]; rfl)
theorem eq_bits (d : Nat) (f g : Int) (W : World) : (Op.equalIn (d + 3) 3 (.int .i64 f) (.int .i64 g)).run Tryd.prog W = .ok (f == g) W := run_equalIn_int (P := Tryd.prog) W (d + 2) 3 .i64 .i64 f g Tryd.underlying3
theorem two_fieldsP (P : Program) (W : World) (D : Nat) (X Y : Array Value) (t1 t2 : TypeId) (a1 b1 a2 b2 : Value) (r1 r2 : Bool)
    (h1 : (part t1 X 0).run P W = .ok a1 W) (h2 : (part t1 Y 0).run P W = .ok b1 W) (h3 : (Op.equalIn D t1 a1 b1).run P W = .ok r1 W)
    (h4 : (part t2 X 17).run P W = .ok a2 W) (h5 : (part t2 Y 17).run P W = .ok b2 W) (h6 : (Op.equalIn D t2 a2 b2).run P W = .ok r2 W) :
    (Op.eqFields D X Y [{ name := "Addr", type := t1, offset := 0, embedded := false, tag := "", pkgPath := "", byteOffset := 0 }, { name := "Bits", type := t2, offset := 17, embedded := false, tag := "", pkgPath := "", byteOffset := 24 }]).run P W = .ok (r1 && r2) W := by
  simp only [Op.eqFields, ne_eq, nm3, nm4, not_false_eq_true, if_true, Sem.run_bind, h1, h2, h3, Result.andThen_ok, Sem.run_ite, h4, h5, h6, Sem.run_pure]
  cases r1 <;> cases r2 <;> rfl
theorem eq_pref_at (d : Nat) (f g : Int) (xs ys : List Nat) (n m : Int) (W : World) (hx : xs.length = 16) (hy : ys.length = 16) : (Op.equalIn (d + 4) 27 (prefV f xs n) (prefV g ys m)).run Tryd.prog W = .ok (decide (f = g ∧ xs = ys ∧ n = m)) W := by
  rw [prefV, prefV, stP, pref_fields]
  refine (two_fieldsP Tryd.prog W (d + 3) _ _ 25 3 _ _ _ _ _ _ (part_addr W f xs n hx) (part_addr W g ys m hy) (eq_addr_at d f g xs ys W hx hy) (part_bits W f xs n hx) (part_bits W g ys m hy) (eq_bits d n m W)).trans ?_
  congr 1
  by_cases h1 : f = g <;> by_cases h2 : xs = ys <;> by_cases h3 : n = m <;> simp [h1, h2, h3]
theorem eq_pref (f g : Int) (xs ys : List Nat) (n m : Int) (W : World) (hx : xs.length = 16) (hy : ys.length = 16) : (Op.equalIn 10000 27 (prefV f xs n) (prefV g ys m)).run Tryd.prog W = .ok (decide (f = g ∧ xs = ys ∧ n = m)) W :=
  eq_pref_at 9996 f g xs ys n m W hx hy
theorem guard_pref (op : BinOp) (x y : Operand) (f g : Int) (xs ys : List Nat) (n m : Int) (W : World) : (eqGuard op 27 x y (prefV f xs n) (prefV g ys m)).run Tryd.prog W = .ok () W := run_eqGuard_agg _ _ _ _ _ _ _ Tryd.eqGuardType27
theorem run_eq_pref (f g : Int) (xs ys : List Nat) (n m : Int) (W : World) (hx : xs.length = 16) (hy : ys.length = 16) : (binOp .eql 27 (prefV f xs n) (prefV g ys m)).run Tryd.prog W = .ok (.bool (decide (f = g ∧ xs = ys ∧ n = m))) W := by
  have h := eq_pref f g xs ys n m W hx hy
  unfold prefV at h ⊢
  rw [run_eql_struct, h]
  rfl
theorem run_same_pref (f : Int) (xs : List Nat) (n : Int) (W : World) (hx : xs.length = 16) : (binOp .eql 27 (prefV f xs n) (prefV f xs n)).run Tryd.prog W = .ok (.bool true) W := by
  rw [run_eq_pref f f xs xs n n W hx hx, decide_eq_true ⟨rfl, rfl, rfl⟩]
theorem below_newA {w W : World} {f : Int} {bs : List Nat} (h : Hid (W = (w.alloc (.cells zA 25)).setCells w.heap.size 0 (addrL f bs))) : Below w.heap.size w W := by
  rw [h.out]; exact below_cells (Nat.le_refl _) _ _ _ ((Below.refl _ _).alloc (Nat.le_refl _) _)
theorem below_newP {w W : World} {f : Int} {bs : List Nat} {n : Int} (h : Hid (W = (w.alloc (.cells zP 27)).setCells w.heap.size 0 (prefL f bs n))) : Below w.heap.size w W := by
  rw [h.out]; exact below_cells (Nat.le_refl _) _ _ _ ((Below.refl _ _).alloc (Nat.le_refl _) _)
theorem wf_small {n : Nat} (h : n ≤ 100000) : (Lit.int .i64 (n : Int)).wf = true := WalkArith.wf_i64 ⟨by omega, by omega⟩
/-- A prefix, built of its address and its bits; an address of a family alone. -/
theorem built_pref (f : Int) (bs : List Nat) (n : Int) (h16 : bs.length = 16) : Tryd.prog.built 27 [(0, addrV f bs), (1, .int .i64 n)] = some (prefL f bs n).toArray := by
  obtain ⟨y0, y1, y2, y3, y4, y5, y6, y7, y8, y9, y10, y11, y12, y13, y14, y15, rfl⟩ := list16 bs h16
  kernel_rfl
theorem built_fam (f : Int) : Tryd.prog.built 25 [(0, .int .i64 f)] = some (addrL f (List.replicate 16 0)).toArray := rfl
theorem built_zero : Tryd.prog.built 27 [] = some (prefL 0 (List.replicate 16 0) 0).toArray := rfl
theorem exec_build {P : Program} {o : Oper} {a : Act} {w : World} {t : TypeId} {parts : Array (Nat × Operand)} {cells : Array Value} (ho : o.op = .build t parts) (h : P.built t (parts.map fun (i, x) => (i, a.eval x)).toList = some cells) : (execOp a.eval o).run P w = .ok (.value (.agg cells)) w := by
  unfold execOp
  simp only [ho, Sem.run_bind, run_build w t _ cells h, Result.andThen_ok]
  rfl
theorem yields_build_pref {ops : Array Oper} {S : World → Prop} {op : Oper} {a : Act} {f : Int} {bs : List Nat} {n : Int} (hl : Hid (bs.length = 16)) (hw : Region.wanted op (yielded ops a.tmps) = true) (x y : Operand) (ho : op.op = .build 27 #[(0, x), (1, y)])
    (hx : a.eval x = addrV f bs) (hy : a.eval y = .int .i64 n) : YieldsIf Tryd.prog ops S op (prefV f bs n) a :=
  .inl ⟨hw, fun w _ => exec_build ho (by
    simp only [List.map_toArray, List.map_cons, List.map_nil]
    rw [hx, hy]; exact built_pref f bs n hl.out)⟩
theorem yields_build_fam {ops : Array Oper} {S : World → Prop} {op : Oper} {a : Act} {f : Int} (hw : Region.wanted op (yielded ops a.tmps) = true) (x : Operand) (ho : op.op = .build 25 #[(0, x)])
    (hx : a.eval x = .int .i64 f) : YieldsIf Tryd.prog ops S op (addrV f (List.replicate 16 0)) a :=
  .inl ⟨hw, fun w _ => exec_build ho (by
    simp only [List.map_toArray, List.map_cons, List.map_nil]
    rw [hx]; exact built_fam f)⟩
theorem build_pref {ops : Array Oper} {rest : List Oper} {op : Oper} {a : Act} {w : World} {Q : Exit → Act → World → Prop} {f : Int} {bs : List Nat} {n : Int} (hl : Hid (bs.length = 16)) (hg : op.guard = none) (x y : Operand) (ho : op.op = .build 27 #[(0, x), (1, y)])
    (hx : a.eval x = addrV f bs) (hy : a.eval y = .int .i64 n) (h : wpList Tryd.prog ops Q rest (a.put op.dst (prefV f bs n)) w) : wpList Tryd.prog ops Q (op :: rest) a w := by
  have e : Tryd.prog.built 27 ((#[(0, x), (1, y)] : Array (Nat × Operand)).map fun (i, x) => (i, a.eval x)).toList = some (prefL f bs n).toArray := by
    simp only [List.map_toArray, List.map_cons, List.map_nil]
    rw [hx, hy]; exact built_pref f bs n hl.out
  refine wpList_build hg 27 _ ho (by rw [e]; rfl) ?_
  rw [e]
  exact h
theorem build_fam {ops : Array Oper} {rest : List Oper} {op : Oper} {a : Act} {w : World} {Q : Exit → Act → World → Prop} {f : Int} (hg : op.guard = none) (x : Operand) (ho : op.op = .build 25 #[(0, x)])
    (hx : a.eval x = .int .i64 f) (h : wpList Tryd.prog ops Q rest (a.put op.dst (addrV f (List.replicate 16 0))) w) : wpList Tryd.prog ops Q (op :: rest) a w := by
  have e : Tryd.prog.built 25 ((#[(0, x)] : Array (Nat × Operand)).map fun (i, x) => (i, a.eval x)).toList = some (addrL f (List.replicate 16 0)).toArray := by
    simp only [List.map_toArray, List.map_cons, List.map_nil]
    rw [hx]; exact built_fam f
  refine wpList_build hg 25 _ ho (by rw [e]; rfl) ?_
  rw [e]
  exact h
theorem build_zero {ops : Array Oper} {rest : List Oper} {op : Oper} {a : Act} {w : World} {Q : Exit → Act → World → Prop} (hg : op.guard = none) (ho : op.op = .build 27 #[])
    (h : wpList Tryd.prog ops Q rest (a.put op.dst (prefV 0 (List.replicate 16 0) 0)) w) : wpList Tryd.prog ops Q (op :: rest) a w := by
  have e : Tryd.prog.built 27 ((#[] : Array (Nat × Operand)).map fun (i, x) => (i, a.eval x)).toList = some (prefL 0 (List.replicate 16 0) 0).toArray := by
    simp only [List.map_toArray, List.map_nil]
    exact built_zero
  refine wpList_build hg 27 _ ho (by rw [e]; rfl) ?_
  rw [e]
  exact h
end Go.Proofs.YtgbajagacmfcmaaDoor
/- Contract of the reference's With of layer 5. -/
namespace Go.Proofs.YtgbajagacmfcmaaDoor
open Go.RowKit
set_option linter.unusedVariables false
set_option maxRecDepth 20000

set_option maxRecDepth 100000 in
set_option maxHeartbeats 2000000 in
theorem refWith_any (f : Int) (bs : List Nat) (n b : Nat) (w : World) (h16 : bs.length = 16) (hlt : ∀ x ∈ bs, x < 256) (hn : n ≤ 1000) (hb : b ≤ 1) :
    Calls Tryd.prog 39 #[addrV f bs, .int .i64 (n : Int), .int .i64 (b : Int)] w fun e w' => e = .returned (addrV f (withL (bitsN f) bs n b)) ∧ Below w.heap.size w w' := by
  obtain ⟨R, eR⟩ : ∃ R, withL (bitsN f) bs n b = R := ⟨_, rfl⟩
  rw [eR]
  have H16 := Lib.hid h16
  have HLT := Lib.hid hlt
  have HF : Hid (∀ i, withF (bitsN f) bs n b i ≤ 1) := Lib.hid (fun i => withF_le _ _ _ _ _ hb)
  have HN := bitsN_le f
  obtain ⟨cs, ecs, HA, HB⟩ := addr_boxed f bs w h16
  have HR := addr_zeroed (w.alloc (.cells cs 25))
  rw [heap_alloc] at HR
  have HRH := Lib.hid HR
  have HA1 := Lib.hid (HA.out.alloc (.cells zA 25))
  have HB1 := Lib.hid (HB.out.alloc HB.out.size (.cells zA 25))
  rw [ecs]
  clear ecs h16 hlt HA HB HR
  go_enter Tryd.func39, Tryd.ntmps39
  go_upto_region 1 with fail
  generalize ((w.alloc (.cells cs 25)).alloc (.cells zA 25)) = W at *
  have hfam := HA1.out.fam
  have HZ1 := Lib.hid (addr_zeroed W)
  have HLZ : Hid ((List.replicate 16 0).length = 16) := Lib.hid rfl
  have GW := HRH.out.lt
  go_upto_region 2 with (first | refine build_fam rfl _ rfl rfl ?_ | refine store_addr HZ1 _ _ HLZ rfl rfl rfl rfl (fun W1 HW1 HO1 => ?_))
  have HA2 := Lib.hid (HA1.out.below (below_newA HW1))
  have HR2 := Lib.hid (HRH.out.below (below_newA HW1))
  have HB2 := Lib.hid (chain HB1.out (below_newA HW1))
  generalize W.heap.size = G1 at *
  clear HA1 HB1 HRH HZ1 HW1 hfam
  have HP0 : Hid (AddrAt W1 G1 f (partL (withF (bitsN f) bs n b) 0)) := Lib.hid (by rw [partL_zero _ HF.out]; exact HO1.out)
  have HBI := fun W => Lib.hid (refBits_any f bs W H16.out)
  have HBT := fun W (k : Nat) (hk : k ≤ 128) => Lib.hid (refBit_any f bs (k : Int) W H16.out HLT.out (wf_small (by omega)))
  have HBA : Hid (∀ k : Nat, k < bitsN f → bitN f bs (k : Int) = bitA bs k) := Lib.hid (fun k hk => bitN_A f bs k hk)
  have HEN := Lib.hid (partL_end f (withF (bitsN f) bs n b) (fun i hi => if_neg (by omega)))
  have HE0 : Hid (R = ofBits (withF (bitsN f) bs n b)) := Lib.hid (by rw [← eR]; rfl)
  clear eR
  have HFV : Hid (∀ k : Nat, k < bitsN f → withF (bitsN f) bs n b k = if n ≤ k then b else bitA bs k) := Lib.hid (fun k hk => if_pos hk)
  generalize withF (bitsN f) bs n b = β at *
  generalize bitsN f = N at *
  clear HO1
  go_wp2_with fail
  go_loopw [8] (fun i wr => ∃ k : Nat, k ≤ N ∧ i = .int .i64 (k : Int) ∧ Hid (AddrAt wr w.heap.size f bs) ∧ Hid (AddrAt wr (w.heap.size + 1) 0 (List.replicate 16 0)) ∧ Hid (AddrAt wr G1 f (partL β k)) ∧ Hid (Below w.heap.size w wr)) (fun i _ => 128 - (intOf i).toNat)
  case atStart => exact ⟨0, by omega, rfl, HA2, HR2, HP0, HB2⟩
  case round =>
    obtain ⟨k, hk, rfl, HA3, HR3, HP3, HB3⟩ := hrel
    clear HA2 HR2 HP0 HB2
    have hk128 : k ≤ 128 := by omega
    go_wp2_with (refine load_addr_g HA3 _ rfl rfl rfl ?_)
    refine (HBI _).out.mono ?_
    rintro e w1 ⟨rfl, hb1⟩
    have HA4 := Lib.hid (HA3.out.below hb1)
    have HR4 := Lib.hid (HR3.out.below hb1)
    have HP4 := Lib.hid (HP3.out.below hb1)
    have HB4 := Lib.hid (chain HB3.out hb1)
    clear HA3 HR3 HP3 HB3 hb1
    by_cases hkN : k < N
    · have hd : decide ((k : Int) < (N : Int)) = true := by simp; omega
      go_wp2_with (refine load_addr_g HA4 _ rfl rfl rfl ?_)
      refine (HBT _ k hk128).out.mono ?_
      rintro e w2 ⟨rfl, hb2⟩
      have HA5 := Lib.hid (HA4.out.below hb2)
      have HR5 := Lib.hid (HR4.out.below hb2)
      have HP5 := Lib.hid (HP4.out.below hb2)
      have HB5 := Lib.hid (chain HB4.out hb2)
      clear HA4 HR4 HP4 HB4 hb2
      rw [HBA.out k hkN]
      have hv := bitA_le bs k
      have HFK := Lib.hid (HFV.out k hkN)
      have HST := Lib.hid (partL_step β HF.out k (by omega))
      have hx := partL_lt β HF.out k (by omega)
      have hq16 : k / 8 < 16 := by omega
      have hcell := HP5.out.cells (k / 8) hq16
      have hliv := HP5.out.live (1 + k / 8) (by omega)
      have HSV := fun v => Lib.hid (HP5.out.set (i := k / 8) hq16 v)
      generalize (partL β k).getD (k / 8) 0 = x at *
      generalize bitA bs k = v at *
      obtain ⟨q, eq, hq2⟩ : ∃ q : Nat, k / 8 = q ∧ (k : Int) / 8 = (q : Int) := ⟨_, rfl, by omega⟩
      rw [eq] at HST hq16 hcell hliv HSV
      have d1 : (k : Int).tdiv 8 = (q : Int) := by rw [Int.tdiv_eq_ediv_of_nonneg (by omega)]; exact hq2
      have q16 : (q : Int) < 16 := by omega
      have HGG := Lib.hid GW
      clear eq hq2 GW
      by_cases hnk : n ≤ k
      · have hd2 : decide ((n : Int) ≤ (k : Int)) = true := by simp; omega
        have HE : Hid ((partL β k).set q (x * 2 + b) = partL β (k + 1)) := Lib.hid (by rw [← HST.out, HFK.out, if_pos hnk])
        have wb : IntKind.u8.wrap (b : Int) = (b : Int) := by rw [IntKind.wrap_u8]; omega
        go_wp2_with fail
        go_roundw
        case rel => exact ⟨k + 1, by omega, by go_num, Lib.hid (HA5.out.other (by have := HGG.out; omega) _), Lib.hid (HR5.out.other (by have := HGG.out; omega) _), Lib.hid (by rw [← HE.out]; exact (HSV (x * 2 + b)).out), Lib.hid (HB5.out.setCell (p := ⟨G1, 1 + q, none⟩) (by show w.heap.size ≤ G1; have := HGG.out; omega) _)⟩
        case measure => simp [intOf]; omega
      · have hd2 : decide ((n : Int) ≤ (k : Int)) = false := by simp; omega
        have HE : Hid ((partL β k).set q (x * 2 + v) = partL β (k + 1)) := Lib.hid (by rw [← HST.out, HFK.out, if_neg hnk])
        have wv : IntKind.u8.wrap (v : Int) = (v : Int) := by rw [IntKind.wrap_u8]; omega
        go_wp2_with fail
        go_roundw
        case rel => exact ⟨k + 1, by omega, by go_num, Lib.hid (HA5.out.other (by have := HGG.out; omega) _), Lib.hid (HR5.out.other (by have := HGG.out; omega) _), Lib.hid (by rw [← HE.out]; exact (HSV (x * 2 + v)).out), Lib.hid (HB5.out.setCell (p := ⟨G1, 1 + q, none⟩) (by show w.heap.size ≤ G1; have := HGG.out; omega) _)⟩
        case measure => simp [intOf]; omega
    · obtain rfl : k = N := by omega
      have hd : decide ((k : Int) < (k : Int)) = false := by simp
      have HLN : Hid ((ofBits β).length = 16) := Lib.hid (ofBits_len β)
      rw [HEN.out] at HP4
      go_wp2_with (first | refine load_addr_g HP4 _ rfl rfl rfl ?_ | (refine store_addr HR4 _ _ HLN rfl rfl rfl rfl (fun W HW HA => ?_)))
      refine bodyPost_ret (v := addrV f (ofBits β)) (results_addr Tryd.results39 rfl HA.out) rfl ⟨by rw [HE0.out], by rw [HW.out]; exact below_cells (by omega) _ _ _ HB4.out⟩
end Go.Proofs.YtgbajagacmfcmaaDoor
/- Contracts of the reference's Of4 and Of6 of layer 4. -/
namespace Go.Proofs.YtgbajagacmfcmaaDoor
open Go.RowKit
set_option linter.unusedVariables false
set_option maxRecDepth 20000

/-- Eight groups in a block (where the dump holds 42). -/
theorem Arr8.of8 (w : World) (t : TypeId) (x0 x1 x2 x3 x4 x5 x6 x7 : Nat) : Arr8 (w.alloc (.cells #[.int .u16 (x0 : Int), .int .u16 (x1 : Int), .int .u16 (x2 : Int), .int .u16 (x3 : Int), .int .u16 (x4 : Int), .int .u16 (x5 : Int), .int .u16 (x6 : Int), .int .u16 (x7 : Int)] t)) w.heap.size [x0, x1, x2, x3, x4, x5, x6, x7] := by
  refine ⟨rfl, by simp, ?_, fun j _ => World.frozen?_alloc_new _ _ _ _⟩
  intro j hj
  have : j = 0 ∨ j = 1 ∨ j = 2 ∨ j = 3 ∨ j = 4 ∨ j = 5 ∨ j = 6 ∨ j = 7 := by omega
  rcases this with rfl | rfl | rfl | rfl | rfl | rfl | rfl | rfl <;> simp [World.cell?_alloc_new]

/-- What Of4 has laid behind k rounds. -/
def lo4 (n : Nat) : Nat → List Nat
  | 0 => List.replicate 16 0
  | k + 1 => (lo4 n k).set (3 - k) (n / 256 ^ k % 256)
def b4 (n : Nat) : List Nat := lo4 n 4
theorem b4_eq (n : Nat) : b4 n = [n / 16777216 % 256, n / 65536 % 256, n / 256 % 256, n % 256, 0, 0, 0, 0, 0, 0, 0, 0, 0, 0, 0, 0] := by
  simp [b4, lo4]
theorem b4_len (n : Nat) : (b4 n).length = 16 := by rw [b4_eq]; rfl
theorem zero_addr (f : Int) : (#[.int .i64 f, .int .u8 0, .int .u8 0, .int .u8 0, .int .u8 0, .int .u8 0, .int .u8 0, .int .u8 0, .int .u8 0, .int .u8 0, .int .u8 0, .int .u8 0, .int .u8 0, .int .u8 0, .int .u8 0, .int .u8 0, .int .u8 0] : Array Value).toList = Value.int .i64 f :: (List.replicate 16 0).map fun n => Value.int .u8 ((n : Nat) : Int) := rfl
set_option maxRecDepth 100000 in
set_option maxHeartbeats 2000000 in
theorem refOf4_any (n : Nat) (w : World) (hn : n ≤ 4294967295) :
    Calls Tryd.prog 19 #[.int .u32 (n : Int)] w fun e w' => e = .returned (addrV 4 (b4 n)) ∧ Below w.heap.size w w' := by
  have hR := AddrAt.of w 25 #[.int .i64 0, .int .u8 0, .int .u8 0, .int .u8 0, .int .u8 0, .int .u8 0, .int .u8 0, .int .u8 0, .int .u8 0, .int .u8 0, .int .u8 0, .int .u8 0, .int .u8 0, .int .u8 0, .int .u8 0, .int .u8 0, .int .u8 0] 0 (List.replicate 16 0) rfl (zero_addr 0)
  have hP := AddrAt.of (w.alloc (.cells #[.int .i64 0, .int .u8 0, .int .u8 0, .int .u8 0, .int .u8 0, .int .u8 0, .int .u8 0, .int .u8 0, .int .u8 0, .int .u8 0, .int .u8 0, .int .u8 0, .int .u8 0, .int .u8 0, .int .u8 0, .int .u8 0, .int .u8 0] 25)) 25 #[.int .i64 4, .int .u8 0, .int .u8 0, .int .u8 0, .int .u8 0, .int .u8 0, .int .u8 0, .int .u8 0, .int .u8 0, .int .u8 0, .int .u8 0, .int .u8 0, .int .u8 0, .int .u8 0, .int .u8 0, .int .u8 0, .int .u8 0] 4 (List.replicate 16 0) rfl (zero_addr 4)
  have b1 : Below w.heap.size w (w.alloc (.cells #[.int .i64 0, .int .u8 0, .int .u8 0, .int .u8 0, .int .u8 0, .int .u8 0, .int .u8 0, .int .u8 0, .int .u8 0, .int .u8 0, .int .u8 0, .int .u8 0, .int .u8 0, .int .u8 0, .int .u8 0, .int .u8 0, .int .u8 0] 25)) := (Below.refl _ _).alloc (Nat.le_refl _) _
  have b2 := b1.alloc b1.size (.cells #[.int .i64 4, .int .u8 0, .int .u8 0, .int .u8 0, .int .u8 0, .int .u8 0, .int .u8 0, .int .u8 0, .int .u8 0, .int .u8 0, .int .u8 0, .int .u8 0, .int .u8 0, .int .u8 0, .int .u8 0, .int .u8 0, .int .u8 0] 25)
  have hR2 := hR.below ((Below.refl _ _).alloc (Nat.le_refl _) (.cells #[.int .i64 4, .int .u8 0, .int .u8 0, .int .u8 0, .int .u8 0, .int .u8 0, .int .u8 0, .int .u8 0, .int .u8 0, .int .u8 0, .int .u8 0, .int .u8 0, .int .u8 0, .int .u8 0, .int .u8 0, .int .u8 0, .int .u8 0] 25))
  have e1 : (w.alloc (.cells #[.int .i64 0, .int .u8 0, .int .u8 0, .int .u8 0, .int .u8 0, .int .u8 0, .int .u8 0, .int .u8 0, .int .u8 0, .int .u8 0, .int .u8 0, .int .u8 0, .int .u8 0, .int .u8 0, .int .u8 0, .int .u8 0, .int .u8 0] 25)).heap.size = w.heap.size + 1 := by simp
  rw [e1] at hP
  clear hR b1
  go_enter Tryd.func19, Tryd.ntmps19
  go_wp2_with fail
  generalize ((w.alloc (.cells #[.int .i64 0, .int .u8 0, .int .u8 0, .int .u8 0, .int .u8 0, .int .u8 0, .int .u8 0, .int .u8 0, .int .u8 0, .int .u8 0, .int .u8 0, .int .u8 0, .int .u8 0, .int .u8 0, .int .u8 0, .int .u8 0, .int .u8 0] 25)).alloc (.cells #[.int .i64 4, .int .u8 0, .int .u8 0, .int .u8 0, .int .u8 0, .int .u8 0, .int .u8 0, .int .u8 0, .int .u8 0, .int .u8 0, .int .u8 0, .int .u8 0, .int .u8 0, .int .u8 0, .int .u8 0, .int .u8 0, .int .u8 0] 25)) = W at *
  clear e1
  have HR := Lib.hid hR2
  have HP := Lib.hid hP
  clear hR2 hP
  go_loopw [0, 4] (fun t i wr => ∃ (k X : Nat) (l : List Nat), k ≤ 4 ∧ i = .int .i64 ((3 : Int) - (k : Int)) ∧ t = .int .u32 (X : Int) ∧ X ≤ 4294967295 ∧ Hid (X = n / 256 ^ k) ∧ Hid (AddrAt wr w.heap.size 0 (List.replicate 16 0)) ∧ Hid (AddrAt wr (w.heap.size + 1) 4 l) ∧ Hid (l = lo4 n k) ∧ Below w.heap.size w wr) (fun _ i _ => ((intOf i) + 1).toNat)
  case atStart => exact ⟨0, n, _, by decide, rfl, rfl, hn, Lib.hid (by simp), HR, HP, Lib.hid rfl, b2⟩
  case round =>
    obtain ⟨k, X, l, hk, rfl, rfl, hX, HX, HR2, HP2, HL, hbel⟩ := hrel
    by_cases hk4 : k < 4
    · obtain ⟨j, hj, ej⟩ : ∃ j : Nat, 3 - k = j ∧ (3 : Int) - (k : Int) = (j : Int) := ⟨_, rfl, by omega⟩
      have hp0 := HP2.out.cells j (by omega)
      have hl0 := HP2.out.live (1 + j) (by omega)
      obtain ⟨m, hm, em⟩ : ∃ m : Nat, X % 256 = m ∧ (X : Int) % 256 = (m : Int) := ⟨_, rfl, by omega⟩
      have wm : IntKind.u8.wrap (m : Int) = (m : Int) := by rw [IntKind.wrap_u8]; omega
      have hj16 : (j : Int) < 16 := by omega
      have HS := Lib.hid (HP2.out.set (i := j) (by omega) m)
      have HE : Hid (l.set j m = lo4 n (k + 1)) := Lib.hid (by rw [HL.out, lo4, hj, ← hm, HX.out])
      have HX2 : Hid (X / 256 = n / 256 ^ (k + 1)) := Lib.hid (by rw [HX.out, Nat.pow_succ, Nat.div_div_eq_div_mul])
      have hjk : j + k = 3 := by omega
      generalize l.getD j 0 = o0 at hp0
      clear hj hm
      go_wp2_with fail
      go_roundw
      case rel => exact ⟨k + 1, X / 256, l.set j m, by omega, by congr 1; omega, by first | rfl | (congr 1; omega), by omega, HX2, Lib.hid (HR2.out.other (by omega) _), HS, HE, hbel.setCell (p := ⟨w.heap.size + 1, 1 + j, none⟩) (by show w.heap.size ≤ w.heap.size + 1; omega) _⟩
      case measure => simp [intOf]; omega
    · obtain rfl : k = 4 := by omega
      have hll : l = b4 n := HL.out
      subst hll
      have HLN : Hid ((b4 n).length = 16) := Lib.hid HP2.out.len
      go_wp2_with (first | refine load_addr HP2 _ rfl rfl rfl ?_ | (refine store_addr HR2 _ _ HLN rfl rfl rfl rfl (fun W HW HA => ?_)))
      refine bodyPost_ret (v := addrV 4 (b4 n)) (results_addr Tryd.results19 rfl HA.out) rfl ⟨rfl, by rw [HW.out]; exact below_cells (by omega) _ _ _ hbel⟩

set_option maxRecDepth 100000 in
set_option maxHeartbeats 2000000 in
theorem refOf6_any (gs : List Nat) (w : World) (h8 : gs.length = 8) (hlt : ∀ x ∈ gs, x < 65536) :
    Calls Tryd.prog 42 #[arr8 gs] w fun e w' => e = .returned (addrV 6 (byL gs)) ∧ Below w.heap.size w w' := by
  obtain ⟨x0, x1, x2, x3, x4, x5, x6, x7, hgs⟩ := list8 gs h8
  have ha : arr8 gs = .agg #[.int .u16 (x0 : Int), .int .u16 (x1 : Int), .int .u16 (x2 : Int), .int .u16 (x3 : Int), .int .u16 (x4 : Int), .int .u16 (x5 : Int), .int .u16 (x6 : Int), .int .u16 (x7 : Int)] := by rw [hgs]; rfl
  have hA := Arr8.of8 w 76 x0 x1 x2 x3 x4 x5 x6 x7
  rw [← hgs] at hA
  have b1 : Below w.heap.size w (w.alloc (.cells #[.int .u16 (x0 : Int), .int .u16 (x1 : Int), .int .u16 (x2 : Int), .int .u16 (x3 : Int), .int .u16 (x4 : Int), .int .u16 (x5 : Int), .int .u16 (x6 : Int), .int .u16 (x7 : Int)] 76)) := (Below.refl _ _).alloc (Nat.le_refl _) _
  have b2 := b1.alloc b1.size (.cells #[.int .i64 0, .int .u8 0, .int .u8 0, .int .u8 0, .int .u8 0, .int .u8 0, .int .u8 0, .int .u8 0, .int .u8 0, .int .u8 0, .int .u8 0, .int .u8 0, .int .u8 0, .int .u8 0, .int .u8 0, .int .u8 0, .int .u8 0] 25)
  have b3 := b2.alloc b2.size (.cells #[.int .i64 6, .int .u8 0, .int .u8 0, .int .u8 0, .int .u8 0, .int .u8 0, .int .u8 0, .int .u8 0, .int .u8 0, .int .u8 0, .int .u8 0, .int .u8 0, .int .u8 0, .int .u8 0, .int .u8 0, .int .u8 0, .int .u8 0] 25)
  have hR := AddrAt.of (w.alloc (.cells #[.int .u16 (x0 : Int), .int .u16 (x1 : Int), .int .u16 (x2 : Int), .int .u16 (x3 : Int), .int .u16 (x4 : Int), .int .u16 (x5 : Int), .int .u16 (x6 : Int), .int .u16 (x7 : Int)] 76)) 25 #[.int .i64 0, .int .u8 0, .int .u8 0, .int .u8 0, .int .u8 0, .int .u8 0, .int .u8 0, .int .u8 0, .int .u8 0, .int .u8 0, .int .u8 0, .int .u8 0, .int .u8 0, .int .u8 0, .int .u8 0, .int .u8 0, .int .u8 0] 0 (List.replicate 16 0) rfl (zero_addr 0)
  have hP := AddrAt.of ((w.alloc (.cells #[.int .u16 (x0 : Int), .int .u16 (x1 : Int), .int .u16 (x2 : Int), .int .u16 (x3 : Int), .int .u16 (x4 : Int), .int .u16 (x5 : Int), .int .u16 (x6 : Int), .int .u16 (x7 : Int)] 76)).alloc (.cells #[.int .i64 0, .int .u8 0, .int .u8 0, .int .u8 0, .int .u8 0, .int .u8 0, .int .u8 0, .int .u8 0, .int .u8 0, .int .u8 0, .int .u8 0, .int .u8 0, .int .u8 0, .int .u8 0, .int .u8 0, .int .u8 0, .int .u8 0] 25)) 25 #[.int .i64 6, .int .u8 0, .int .u8 0, .int .u8 0, .int .u8 0, .int .u8 0, .int .u8 0, .int .u8 0, .int .u8 0, .int .u8 0, .int .u8 0, .int .u8 0, .int .u8 0, .int .u8 0, .int .u8 0, .int .u8 0, .int .u8 0] 6 (List.replicate 16 0) rfl (zero_addr 6)
  have hA2 := (hA.below ((Below.refl _ _).alloc (Nat.le_refl _) (.cells #[.int .i64 0, .int .u8 0, .int .u8 0, .int .u8 0, .int .u8 0, .int .u8 0, .int .u8 0, .int .u8 0, .int .u8 0, .int .u8 0, .int .u8 0, .int .u8 0, .int .u8 0, .int .u8 0, .int .u8 0, .int .u8 0, .int .u8 0] 25))).below ((Below.refl _ _).alloc (Nat.le_refl _) (.cells #[.int .i64 6, .int .u8 0, .int .u8 0, .int .u8 0, .int .u8 0, .int .u8 0, .int .u8 0, .int .u8 0, .int .u8 0, .int .u8 0, .int .u8 0, .int .u8 0, .int .u8 0, .int .u8 0, .int .u8 0, .int .u8 0, .int .u8 0] 25))
  have hR2 := hR.below ((Below.refl _ _).alloc (Nat.le_refl _) (.cells #[.int .i64 6, .int .u8 0, .int .u8 0, .int .u8 0, .int .u8 0, .int .u8 0, .int .u8 0, .int .u8 0, .int .u8 0, .int .u8 0, .int .u8 0, .int .u8 0, .int .u8 0, .int .u8 0, .int .u8 0, .int .u8 0, .int .u8 0] 25))
  have e1 : (w.alloc (.cells #[.int .u16 (x0 : Int), .int .u16 (x1 : Int), .int .u16 (x2 : Int), .int .u16 (x3 : Int), .int .u16 (x4 : Int), .int .u16 (x5 : Int), .int .u16 (x6 : Int), .int .u16 (x7 : Int)] 76)).heap.size = w.heap.size + 1 := by simp
  have e2 : ((w.alloc (.cells #[.int .u16 (x0 : Int), .int .u16 (x1 : Int), .int .u16 (x2 : Int), .int .u16 (x3 : Int), .int .u16 (x4 : Int), .int .u16 (x5 : Int), .int .u16 (x6 : Int), .int .u16 (x7 : Int)] 76)).alloc (.cells #[.int .i64 0, .int .u8 0, .int .u8 0, .int .u8 0, .int .u8 0, .int .u8 0, .int .u8 0, .int .u8 0, .int .u8 0, .int .u8 0, .int .u8 0, .int .u8 0, .int .u8 0, .int .u8 0, .int .u8 0, .int .u8 0, .int .u8 0] 25)).heap.size = w.heap.size + 1 + 1 := by simp
  rw [e1] at hR2
  rw [e2] at hP
  rw [ha]
  have H8 := Lib.hid h8
  have HLT := Lib.hid hlt
  clear ha hgs h8 hlt hA hR b1 b2
  go_enter Tryd.func42, Tryd.ntmps42
  go_wp2_with fail
  generalize (((w.alloc (.cells #[.int .u16 (x0 : Int), .int .u16 (x1 : Int), .int .u16 (x2 : Int), .int .u16 (x3 : Int), .int .u16 (x4 : Int), .int .u16 (x5 : Int), .int .u16 (x6 : Int), .int .u16 (x7 : Int)] 76)).alloc (.cells #[.int .i64 0, .int .u8 0, .int .u8 0, .int .u8 0, .int .u8 0, .int .u8 0, .int .u8 0, .int .u8 0, .int .u8 0, .int .u8 0, .int .u8 0, .int .u8 0, .int .u8 0, .int .u8 0, .int .u8 0, .int .u8 0, .int .u8 0] 25)).alloc (.cells #[.int .i64 6, .int .u8 0, .int .u8 0, .int .u8 0, .int .u8 0, .int .u8 0, .int .u8 0, .int .u8 0, .int .u8 0, .int .u8 0, .int .u8 0, .int .u8 0, .int .u8 0, .int .u8 0, .int .u8 0, .int .u8 0, .int .u8 0] 25)) = W at *
  clear e1 e2
  have HA := Lib.hid hA2
  have HR := Lib.hid hR2
  have HP := Lib.hid hP
  clear hA2 hR2 hP
  go_loopw [4] (fun i wr => ∃ (k : Nat) (l : List Nat), k ≤ 8 ∧ i = .int .i64 k ∧ Hid (Arr8 wr w.heap.size gs) ∧ Hid (AddrAt wr (w.heap.size + 1) 0 (List.replicate 16 0)) ∧ Hid (AddrAt wr (w.heap.size + 1 + 1) 6 l) ∧ Hid (l = byL (gs.take k) ++ List.replicate (16 - 2 * k) 0) ∧ Below w.heap.size w wr) (fun i _ => 8 - (intOf i).toNat)
  case atStart => exact ⟨0, _, by decide, rfl, HA, HR, HP, Lib.hid rfl, b3⟩
  case round =>
    obtain ⟨k, l, hk, rfl, HA2, HR2, HP2, HL, hbel⟩ := hrel
    by_cases hk8 : k < 8
    · have hcell := HA2.out.cells k hk8
      have hx : gs.getD k 0 < 65536 := by
        rw [List.getD_eq_getElem?_getD, List.getElem?_eq_getElem (by rw [H8.out]; exact hk8)]
        exact HLT.out _ (List.getElem_mem _)
      have et : gs.take (k + 1) = gs.take k ++ [gs.getD k 0] := by
        rw [List.take_add_one, List.getD_eq_getElem?_getD, List.getElem?_eq_getElem (by rw [H8.out]; exact hk8)]; rfl
      obtain ⟨x, ex⟩ : ∃ x, gs.getD k 0 = x := ⟨_, rfl⟩
      rw [ex] at hcell hx et
      obtain ⟨c, hc, ec⟩ : ∃ c : Nat, 2 * k = c ∧ (2 : Int) * (k : Int) = (c : Int) := ⟨_, rfl, by omega⟩
      obtain ⟨hi, hhi, ehi⟩ : ∃ hi : Nat, x / 256 = hi ∧ (x : Int) / 256 = (hi : Int) := ⟨_, rfl, by omega⟩
      obtain ⟨lo, hlo, elo⟩ : ∃ lo : Nat, x % 256 = lo ∧ (x : Int) % 256 = (lo : Int) := ⟨_, rfl, by omega⟩
      have whi : IntKind.u8.wrap (hi : Int) = (hi : Int) := by rw [IntKind.wrap_u8]; omega
      have wlo : IntKind.u8.wrap (lo : Int) = (lo : Int) := by rw [IntKind.wrap_u8]; omega
      have hc15 : c + 1 < 16 := by omega
      have c1 : (c : Int) < 16 := by omega
      have c2 : (c : Int) + 1 < 16 := by omega
      have k1 : (k : Int) < 8 := by omega
      have hp0 := HP2.out.cells c (by omega)
      have hl0 := HP2.out.live (1 + c) (by omega)
      have hcell2 := (HA2.out.other (B' := w.heap.size + 1 + 1) (k := 1 + c) (by omega) (.int .u8 (hi : Int))).cells k hk8
      rw [ex] at hcell2
      have HP3 := Lib.hid (HP2.out.set (i := c) (by omega) hi)
      have hp1 := HP3.out.cells (c + 1) (by omega)
      have hl1 := HP3.out.live (1 + (c + 1)) (by omega)
      have HS := Lib.hid (HP3.out.set (i := c + 1) (by omega) lo)
      have HE : Hid (((l.set c hi).set (c + 1) lo) = byL (gs.take (k + 1)) ++ List.replicate (16 - 2 * (k + 1)) 0) := Lib.hid (by
        rw [HL.out, et, byL_snoc, ← hc, ← hhi, ← hlo]
        exact set_two _ k _ _ hk8 (by rw [byL_len, List.length_take, H8.out]; omega))
      generalize l.getD c 0 = o0 at hp0
      generalize (l.set c hi).getD (c + 1) 0 = o1 at hp1
      clear ex et hc hhi hlo
      go_wp2_with fail
      go_roundw
      case rel => exact ⟨k + 1, (l.set c hi).set (c + 1) lo, by omega, by go_num, Lib.hid ((HA2.out.other (by omega) _).other (by omega) _), Lib.hid ((HR2.out.other (by omega) _).other (by omega) _), HS, HE, (hbel.setCell (p := ⟨w.heap.size + 1 + 1, 1 + c, none⟩) (by show w.heap.size ≤ w.heap.size + 1 + 1; omega) _).setCell (p := ⟨w.heap.size + 1 + 1, 1 + (c + 1), none⟩) (by show w.heap.size ≤ w.heap.size + 1 + 1; omega) _⟩
      case measure => simp [intOf]; omega
    · obtain rfl : k = 8 := by omega
      have hll : l = byL gs := by rw [HL.out, List.take_of_length_le (by rw [H8.out]; exact Nat.le_refl _)]; simp
      subst hll
      have HLN : Hid ((byL gs).length = 16) := Lib.hid HP2.out.len
      go_wp2_with (first | refine load_addr HP2 _ rfl rfl rfl ?_ | (refine store_addr HR2 _ _ HLN rfl rfl rfl rfl (fun W HW HA => ?_)))
      refine bodyPost_ret (v := addrV 6 (byL gs)) (results_addr Tryd.results42 rfl HA.out) rfl ⟨rfl, by rw [HW.out]; exact below_cells (by omega) _ _ _ hbel⟩
end Go.Proofs.YtgbajagacmfcmaaDoor
/- Contracts of the reference's Map, Unmap, Good of layer 4. -/
namespace Go.Proofs.YtgbajagacmfcmaaDoor
open Go.RowKit
set_option linter.unusedVariables false
set_option maxRecDepth 20000

/-- The groups of a mapped one. -/
def map8 (n : Nat) : List Nat := [0, 0, 0, 0, 0, 65535, n / 65536, n % 65536]
theorem map8_lt (n : Nat) (h : n ≤ 4294967295) : ∀ x ∈ map8 n, x < 65536 := by
  intro x hx
  simp [map8] at hx
  omega
def mapF (f : Int) : Int := if f = 4 then 6 else f
def mapB (f : Int) (bs : List Nat) : List Nat := if f = 4 then byL (map8 (fourB bs)) else bs
theorem fourB_le (bs : List Nat) (h : ∀ x ∈ bs, x < 256) : fourB bs ≤ 4294967295 := Nat.le_of_lt_succ (fourTo_lt bs h 4)
set_option maxRecDepth 100000 in
set_option maxHeartbeats 1000000 in
theorem refMap_any (f : Int) (bs : List Nat) (w : World) (h16 : bs.length = 16) (hlt : ∀ x ∈ bs, x < 256) :
    Calls Tryd.prog 20 #[addrV f bs] w fun e w' => e = .returned (addrV (mapF f) (mapB f bs)) ∧ Below w.heap.size w w' := by
  have HLT := Lib.hid hlt
  have H16 := Lib.hid h16
  obtain ⟨y0, y1, y2, y3, y4, y5, y6, y7, y8, y9, y10, y11, y12, y13, y14, y15, hbs⟩ := list16 bs h16
  have ha : addrV f bs = .agg #[.int .i64 f, .int .u8 (y0 : Int), .int .u8 (y1 : Int), .int .u8 (y2 : Int), .int .u8 (y3 : Int), .int .u8 (y4 : Int), .int .u8 (y5 : Int), .int .u8 (y6 : Int), .int .u8 (y7 : Int), .int .u8 (y8 : Int), .int .u8 (y9 : Int), .int .u8 (y10 : Int), .int .u8 (y11 : Int), .int .u8 (y12 : Int), .int .u8 (y13 : Int), .int .u8 (y14 : Int), .int .u8 (y15 : Int)] := by rw [hbs]; rfl
  have HBS := Lib.hid hbs
  by_cases h4 : f = 4
  · subst h4
    rw [show mapF 4 = 6 from rfl, show mapB 4 bs = byL (map8 (fourB bs)) from rfl, ha]
    obtain ⟨n, hn⟩ : ∃ n, fourB bs = n := ⟨_, rfl⟩
    have hn2 := fourB_le bs hlt
    rw [hn] at hn2
    rw [hn]
    have HF := fun W => Lib.hid (refFour_any 4 bs W h16 hlt)
    have HO := fun W => Lib.hid (refOf6_any (map8 n) W rfl (map8_lt n hn2))
    rw [hn] at HF
    have hA := AddrAt.new w 25 4 y0 y1 y2 y3 y4 y5 y6 y7 y8 y9 y10 y11 y12 y13 y14 y15
    rw [← hbs] at hA
    have HP2 := Lib.hid (hA.below ((Below.refl _ _).alloc (Nat.le_refl _) (.cells #[.int .i64 0, .int .u8 0, .int .u8 0, .int .u8 0, .int .u8 0, .int .u8 0, .int .u8 0, .int .u8 0, .int .u8 0, .int .u8 0, .int .u8 0, .int .u8 0, .int .u8 0, .int .u8 0, .int .u8 0, .int .u8 0, .int .u8 0] 25)))
    have hR := AddrAt.of (w.alloc (.cells #[.int .i64 4, .int .u8 (y0 : Int), .int .u8 (y1 : Int), .int .u8 (y2 : Int), .int .u8 (y3 : Int), .int .u8 (y4 : Int), .int .u8 (y5 : Int), .int .u8 (y6 : Int), .int .u8 (y7 : Int), .int .u8 (y8 : Int), .int .u8 (y9 : Int), .int .u8 (y10 : Int), .int .u8 (y11 : Int), .int .u8 (y12 : Int), .int .u8 (y13 : Int), .int .u8 (y14 : Int), .int .u8 (y15 : Int)] 25)) 25 #[.int .i64 0, .int .u8 0, .int .u8 0, .int .u8 0, .int .u8 0, .int .u8 0, .int .u8 0, .int .u8 0, .int .u8 0, .int .u8 0, .int .u8 0, .int .u8 0, .int .u8 0, .int .u8 0, .int .u8 0, .int .u8 0, .int .u8 0] 0 (List.replicate 16 0) rfl (zero_addr 0)
    have b1 : Below w.heap.size w (w.alloc (.cells #[.int .i64 4, .int .u8 (y0 : Int), .int .u8 (y1 : Int), .int .u8 (y2 : Int), .int .u8 (y3 : Int), .int .u8 (y4 : Int), .int .u8 (y5 : Int), .int .u8 (y6 : Int), .int .u8 (y7 : Int), .int .u8 (y8 : Int), .int .u8 (y9 : Int), .int .u8 (y10 : Int), .int .u8 (y11 : Int), .int .u8 (y12 : Int), .int .u8 (y13 : Int), .int .u8 (y14 : Int), .int .u8 (y15 : Int)] 25)) := (Below.refl _ _).alloc (Nat.le_refl _) _
    have b2 := b1.alloc b1.size (.cells #[.int .i64 0, .int .u8 0, .int .u8 0, .int .u8 0, .int .u8 0, .int .u8 0, .int .u8 0, .int .u8 0, .int .u8 0, .int .u8 0, .int .u8 0, .int .u8 0, .int .u8 0, .int .u8 0, .int .u8 0, .int .u8 0, .int .u8 0] 25)
    have e1 : (w.alloc (.cells #[.int .i64 4, .int .u8 (y0 : Int), .int .u8 (y1 : Int), .int .u8 (y2 : Int), .int .u8 (y3 : Int), .int .u8 (y4 : Int), .int .u8 (y5 : Int), .int .u8 (y6 : Int), .int .u8 (y7 : Int), .int .u8 (y8 : Int), .int .u8 (y9 : Int), .int .u8 (y10 : Int), .int .u8 (y11 : Int), .int .u8 (y12 : Int), .int .u8 (y13 : Int), .int .u8 (y14 : Int), .int .u8 (y15 : Int)] 25)).heap.size = w.heap.size + 1 := by simp
    rw [e1] at hR
    have q1 : ((n / 65536 : Nat) : Int) = (n : Int) / 65536 := by omega
    have q2 : ((n % 65536 : Nat) : Int) = (n : Int) % 65536 := by omega
    have q3 : IntKind.u16.wrap ((n : Int) / 65536) = (n : Int) / 65536 := by rw [IntKind.wrap_u16]; omega
    have q4 : IntKind.u16.wrap ((n : Int) % 65536) = (n : Int) % 65536 := by rw [IntKind.wrap_u16]; omega
    have HQ := Lib.hid (show arr8 (map8 n) = .agg #[.int .u16 0, .int .u16 0, .int .u16 0, .int .u16 0, .int .u16 0, .int .u16 65535, .int .u16 ((n : Int) / 65536), .int .u16 ((n : Int) % 65536)] by rw [← q1, ← q2]; rfl)
    rw [HQ.out] at HO
    have HR := Lib.hid hR
    have HB := Lib.hid b2
    clear hn ha hbs h16 hlt hA hR b1 b2 q1 q2
    go_enter Tryd.func20, Tryd.ntmps20
    go_wp2_with (refine load_addr HP2 _ rfl rfl rfl ?_)
    generalize ((w.alloc (.cells #[.int .i64 4, .int .u8 (y0 : Int), .int .u8 (y1 : Int), .int .u8 (y2 : Int), .int .u8 (y3 : Int), .int .u8 (y4 : Int), .int .u8 (y5 : Int), .int .u8 (y6 : Int), .int .u8 (y7 : Int), .int .u8 (y8 : Int), .int .u8 (y9 : Int), .int .u8 (y10 : Int), .int .u8 (y11 : Int), .int .u8 (y12 : Int), .int .u8 (y13 : Int), .int .u8 (y14 : Int), .int .u8 (y15 : Int)] 25)).alloc (.cells #[.int .i64 0, .int .u8 0, .int .u8 0, .int .u8 0, .int .u8 0, .int .u8 0, .int .u8 0, .int .u8 0, .int .u8 0, .int .u8 0, .int .u8 0, .int .u8 0, .int .u8 0, .int .u8 0, .int .u8 0, .int .u8 0, .int .u8 0] 25)) = W at *
    clear e1
    refine (HF W).out.mono ?_
    rintro e w1 ⟨rfl, hb1⟩
    go_wp2_with fail
    refine (HO w1).out.mono ?_
    rintro e w2 ⟨rfl, hb2⟩
    have HR2 := Lib.hid ((HR.out.below hb1).below hb2)
    have hbel := chain (chain HB.out hb1) hb2
    have HLN : Hid ((byL (map8 n)).length = 16) := Lib.hid (by rw [byL_len]; rfl)
    clear HR HB hb1 hb2
    go_wp2_with (refine store_addr HR2 _ _ HLN rfl rfl rfl rfl (fun W HW HA => ?_))
    refine bodyPost_ret (v := addrV 6 (byL (map8 n))) (results_addr Tryd.results20 rfl HA.out) rfl ⟨rfl, by rw [HW.out]; exact below_cells (by omega) _ _ _ hbel⟩
  · rw [show mapF f = f from if_neg h4, show mapB f bs = bs from if_neg h4]
    have hA := AddrAt.new w 25 f y0 y1 y2 y3 y4 y5 y6 y7 y8 y9 y10 y11 y12 y13 y14 y15
    rw [← hbs] at hA
    have hR := AddrAt.of (w.alloc (.cells #[.int .i64 f, .int .u8 (y0 : Int), .int .u8 (y1 : Int), .int .u8 (y2 : Int), .int .u8 (y3 : Int), .int .u8 (y4 : Int), .int .u8 (y5 : Int), .int .u8 (y6 : Int), .int .u8 (y7 : Int), .int .u8 (y8 : Int), .int .u8 (y9 : Int), .int .u8 (y10 : Int), .int .u8 (y11 : Int), .int .u8 (y12 : Int), .int .u8 (y13 : Int), .int .u8 (y14 : Int), .int .u8 (y15 : Int)] 25)) 25 #[.int .i64 0, .int .u8 0, .int .u8 0, .int .u8 0, .int .u8 0, .int .u8 0, .int .u8 0, .int .u8 0, .int .u8 0, .int .u8 0, .int .u8 0, .int .u8 0, .int .u8 0, .int .u8 0, .int .u8 0, .int .u8 0, .int .u8 0] 0 (List.replicate 16 0) rfl (zero_addr 0)
    have b1 : Below w.heap.size w (w.alloc (.cells #[.int .i64 f, .int .u8 (y0 : Int), .int .u8 (y1 : Int), .int .u8 (y2 : Int), .int .u8 (y3 : Int), .int .u8 (y4 : Int), .int .u8 (y5 : Int), .int .u8 (y6 : Int), .int .u8 (y7 : Int), .int .u8 (y8 : Int), .int .u8 (y9 : Int), .int .u8 (y10 : Int), .int .u8 (y11 : Int), .int .u8 (y12 : Int), .int .u8 (y13 : Int), .int .u8 (y14 : Int), .int .u8 (y15 : Int)] 25)) := (Below.refl _ _).alloc (Nat.le_refl _) _
    have HB := Lib.hid (b1.alloc b1.size (.cells #[.int .i64 0, .int .u8 0, .int .u8 0, .int .u8 0, .int .u8 0, .int .u8 0, .int .u8 0, .int .u8 0, .int .u8 0, .int .u8 0, .int .u8 0, .int .u8 0, .int .u8 0, .int .u8 0, .int .u8 0, .int .u8 0, .int .u8 0] 25))
    have e1 : (w.alloc (.cells #[.int .i64 f, .int .u8 (y0 : Int), .int .u8 (y1 : Int), .int .u8 (y2 : Int), .int .u8 (y3 : Int), .int .u8 (y4 : Int), .int .u8 (y5 : Int), .int .u8 (y6 : Int), .int .u8 (y7 : Int), .int .u8 (y8 : Int), .int .u8 (y9 : Int), .int .u8 (y10 : Int), .int .u8 (y11 : Int), .int .u8 (y12 : Int), .int .u8 (y13 : Int), .int .u8 (y14 : Int), .int .u8 (y15 : Int)] 25)).heap.size = w.heap.size + 1 := by simp
    rw [e1] at hR
    have HP2 := Lib.hid (hA.below ((Below.refl _ _).alloc (Nat.le_refl _) (.cells #[.int .i64 0, .int .u8 0, .int .u8 0, .int .u8 0, .int .u8 0, .int .u8 0, .int .u8 0, .int .u8 0, .int .u8 0, .int .u8 0, .int .u8 0, .int .u8 0, .int .u8 0, .int .u8 0, .int .u8 0, .int .u8 0, .int .u8 0] 25)))
    have HR2 := Lib.hid hR
    have hfam := (hA.below ((Below.refl _ _).alloc (Nat.le_refl _) (.cells #[.int .i64 0, .int .u8 0, .int .u8 0, .int .u8 0, .int .u8 0, .int .u8 0, .int .u8 0, .int .u8 0, .int .u8 0, .int .u8 0, .int .u8 0, .int .u8 0, .int .u8 0, .int .u8 0, .int .u8 0, .int .u8 0, .int .u8 0] 25))).fam
    rw [show addrV f bs = .agg #[.int .i64 f, .int .u8 (y0 : Int), .int .u8 (y1 : Int), .int .u8 (y2 : Int), .int .u8 (y3 : Int), .int .u8 (y4 : Int), .int .u8 (y5 : Int), .int .u8 (y6 : Int), .int .u8 (y7 : Int), .int .u8 (y8 : Int), .int .u8 (y9 : Int), .int .u8 (y10 : Int), .int .u8 (y11 : Int), .int .u8 (y12 : Int), .int .u8 (y13 : Int), .int .u8 (y14 : Int), .int .u8 (y15 : Int)] from ha]
    go_enter Tryd.func20, Tryd.ntmps20
    clear hR hA b1 ha hbs h16 hlt hfam
    go_upto_if 6 with fail
    generalize ((w.alloc (.cells #[.int .i64 f, .int .u8 (y0 : Int), .int .u8 (y1 : Int), .int .u8 (y2 : Int), .int .u8 (y3 : Int), .int .u8 (y4 : Int), .int .u8 (y5 : Int), .int .u8 (y6 : Int), .int .u8 (y7 : Int), .int .u8 (y8 : Int), .int .u8 (y9 : Int), .int .u8 (y10 : Int), .int .u8 (y11 : Int), .int .u8 (y12 : Int), .int .u8 (y13 : Int), .int .u8 (y14 : Int), .int .u8 (y15 : Int)] 25)).alloc (.cells #[.int .i64 0, .int .u8 0, .int .u8 0, .int .u8 0, .int .u8 0, .int .u8 0, .int .u8 0, .int .u8 0, .int .u8 0, .int .u8 0, .int .u8 0, .int .u8 0, .int .u8 0, .int .u8 0, .int .u8 0, .int .u8 0, .int .u8 0] 25)) = W at *
    clear e1
    go_wp2_with (first | refine load_addr HP2 _ rfl rfl rfl ?_ | (refine store_addr HR2 _ _ H16 rfl rfl rfl rfl (fun W HW HA => ?_)))
    refine bodyPost_ret (v := addrV f bs) (results_addr Tryd.results20 rfl HA.out) rfl ⟨?_, by rw [HW.out]; exact below_cells (by omega) _ _ _ HB.out⟩
    rw [HBS.out]; rfl
end Go.Proofs.YtgbajagacmfcmaaDoor
/- Contract of the reference's Good of layer 4. -/
namespace Go.Proofs.YtgbajagacmfcmaaDoor
open Go.RowKit
set_option linter.unusedVariables false
set_option maxRecDepth 20000

def goodF (f : Int) : Int := if f.tmod 2 = 0 then 4 else 6
def goodB (f : Int) (bs : List Nat) : List Nat := if f.tmod 2 = 0 then b4 (fourB bs) else bs
theorem tmod_two (f : Int) : f.tmod 2 = 0 ∨ f.tmod 2 = 1 ∨ f.tmod 2 = -1 := by have := Int.tmod_two_eq f; omega
set_option maxRecDepth 100000 in
set_option maxHeartbeats 1000000 in
theorem refGood_any (f : Int) (bs : List Nat) (w : World) (h16 : bs.length = 16) (hlt : ∀ x ∈ bs, x < 256) :
    Calls Tryd.prog 8 #[addrV f bs] w fun e w' => e = .returned (addrV (goodF f) (goodB f bs)) ∧ Below w.heap.size w w' := by
  have H16 := Lib.hid h16
  have HF := fun W => Lib.hid (refFour_any f bs W h16 hlt)
  have HO := fun W => Lib.hid (refOf4_any (fourB bs) W (fourB_le bs hlt))
  obtain ⟨y0, y1, y2, y3, y4, y5, y6, y7, y8, y9, y10, y11, y12, y13, y14, y15, hbs⟩ := list16 bs h16
  have ha : addrV f bs = .agg #[.int .i64 f, .int .u8 (y0 : Int), .int .u8 (y1 : Int), .int .u8 (y2 : Int), .int .u8 (y3 : Int), .int .u8 (y4 : Int), .int .u8 (y5 : Int), .int .u8 (y6 : Int), .int .u8 (y7 : Int), .int .u8 (y8 : Int), .int .u8 (y9 : Int), .int .u8 (y10 : Int), .int .u8 (y11 : Int), .int .u8 (y12 : Int), .int .u8 (y13 : Int), .int .u8 (y14 : Int), .int .u8 (y15 : Int)] := by rw [hbs]; rfl
  have hA := AddrAt.new w 25 f y0 y1 y2 y3 y4 y5 y6 y7 y8 y9 y10 y11 y12 y13 y14 y15
  rw [← hbs] at hA
  have hR := AddrAt.of (w.alloc (.cells #[.int .i64 f, .int .u8 (y0 : Int), .int .u8 (y1 : Int), .int .u8 (y2 : Int), .int .u8 (y3 : Int), .int .u8 (y4 : Int), .int .u8 (y5 : Int), .int .u8 (y6 : Int), .int .u8 (y7 : Int), .int .u8 (y8 : Int), .int .u8 (y9 : Int), .int .u8 (y10 : Int), .int .u8 (y11 : Int), .int .u8 (y12 : Int), .int .u8 (y13 : Int), .int .u8 (y14 : Int), .int .u8 (y15 : Int)] 25)) 25 #[.int .i64 0, .int .u8 0, .int .u8 0, .int .u8 0, .int .u8 0, .int .u8 0, .int .u8 0, .int .u8 0, .int .u8 0, .int .u8 0, .int .u8 0, .int .u8 0, .int .u8 0, .int .u8 0, .int .u8 0, .int .u8 0, .int .u8 0] 0 (List.replicate 16 0) rfl (zero_addr 0)
  have b1 : Below w.heap.size w (w.alloc (.cells #[.int .i64 f, .int .u8 (y0 : Int), .int .u8 (y1 : Int), .int .u8 (y2 : Int), .int .u8 (y3 : Int), .int .u8 (y4 : Int), .int .u8 (y5 : Int), .int .u8 (y6 : Int), .int .u8 (y7 : Int), .int .u8 (y8 : Int), .int .u8 (y9 : Int), .int .u8 (y10 : Int), .int .u8 (y11 : Int), .int .u8 (y12 : Int), .int .u8 (y13 : Int), .int .u8 (y14 : Int), .int .u8 (y15 : Int)] 25)) := (Below.refl _ _).alloc (Nat.le_refl _) _
  have HB := Lib.hid (b1.alloc b1.size (.cells #[.int .i64 0, .int .u8 0, .int .u8 0, .int .u8 0, .int .u8 0, .int .u8 0, .int .u8 0, .int .u8 0, .int .u8 0, .int .u8 0, .int .u8 0, .int .u8 0, .int .u8 0, .int .u8 0, .int .u8 0, .int .u8 0, .int .u8 0] 25))
  have e1 : (w.alloc (.cells #[.int .i64 f, .int .u8 (y0 : Int), .int .u8 (y1 : Int), .int .u8 (y2 : Int), .int .u8 (y3 : Int), .int .u8 (y4 : Int), .int .u8 (y5 : Int), .int .u8 (y6 : Int), .int .u8 (y7 : Int), .int .u8 (y8 : Int), .int .u8 (y9 : Int), .int .u8 (y10 : Int), .int .u8 (y11 : Int), .int .u8 (y12 : Int), .int .u8 (y13 : Int), .int .u8 (y14 : Int), .int .u8 (y15 : Int)] 25)).heap.size = w.heap.size + 1 := by simp
  rw [e1] at hR
  have HP2 := Lib.hid (hA.below ((Below.refl _ _).alloc (Nat.le_refl _) (.cells #[.int .i64 0, .int .u8 0, .int .u8 0, .int .u8 0, .int .u8 0, .int .u8 0, .int .u8 0, .int .u8 0, .int .u8 0, .int .u8 0, .int .u8 0, .int .u8 0, .int .u8 0, .int .u8 0, .int .u8 0, .int .u8 0, .int .u8 0] 25)))
  have HR2 := Lib.hid hR
  rw [ha]
  clear hR hA b1 ha hbs h16 hlt e1
  by_cases h2 : f.tmod 2 = 0
  · rw [show goodF f = 4 from if_pos h2, show goodB f bs = b4 (fourB bs) from if_pos h2]
    go_enter Tryd.func8, Tryd.ntmps8
    go_upto_if 6 with fail
    generalize ((w.alloc (.cells #[.int .i64 f, .int .u8 (y0 : Int), .int .u8 (y1 : Int), .int .u8 (y2 : Int), .int .u8 (y3 : Int), .int .u8 (y4 : Int), .int .u8 (y5 : Int), .int .u8 (y6 : Int), .int .u8 (y7 : Int), .int .u8 (y8 : Int), .int .u8 (y9 : Int), .int .u8 (y10 : Int), .int .u8 (y11 : Int), .int .u8 (y12 : Int), .int .u8 (y13 : Int), .int .u8 (y14 : Int), .int .u8 (y15 : Int)] 25)).alloc (.cells #[.int .i64 0, .int .u8 0, .int .u8 0, .int .u8 0, .int .u8 0, .int .u8 0, .int .u8 0, .int .u8 0, .int .u8 0, .int .u8 0, .int .u8 0, .int .u8 0, .int .u8 0, .int .u8 0, .int .u8 0, .int .u8 0, .int .u8 0] 25)) = W at *
    go_wp2_with (refine load_addr HP2 _ rfl rfl rfl ?_)
    refine (HF W).out.mono ?_
    rintro e w1 ⟨rfl, hb1⟩
    go_wp2_with fail
    refine (HO w1).out.mono ?_
    rintro e w2 ⟨rfl, hb2⟩
    have HR3 := Lib.hid ((HR2.out.below hb1).below hb2)
    have hbel := chain (chain HB.out hb1) hb2
    have HLN := Lib.hid (b4_len (fourB bs))
    clear HR2 HB hb1 hb2 HP2
    go_wp2_with (refine store_addr HR3 _ _ HLN rfl rfl rfl rfl (fun W HW HA => ?_))
    refine bodyPost_ret (v := addrV 4 (b4 (fourB bs))) (results_addr Tryd.results8 rfl HA.out) rfl ⟨rfl, by rw [HW.out]; exact below_cells (by omega) _ _ _ hbel⟩
  · rw [show goodF f = 6 from if_neg h2, show goodB f bs = bs from if_neg h2]
    have h3 : f.tmod 2 = 1 ∨ f.tmod 2 = -1 := (tmod_two f).resolve_left h2
    clear h2 HF HO
    rcases h3 with h3 | h3
    · go_enter Tryd.func8, Tryd.ntmps8
      go_upto_if 6 with fail
      generalize ((w.alloc (.cells #[.int .i64 f, .int .u8 (y0 : Int), .int .u8 (y1 : Int), .int .u8 (y2 : Int), .int .u8 (y3 : Int), .int .u8 (y4 : Int), .int .u8 (y5 : Int), .int .u8 (y6 : Int), .int .u8 (y7 : Int), .int .u8 (y8 : Int), .int .u8 (y9 : Int), .int .u8 (y10 : Int), .int .u8 (y11 : Int), .int .u8 (y12 : Int), .int .u8 (y13 : Int), .int .u8 (y14 : Int), .int .u8 (y15 : Int)] 25)).alloc (.cells #[.int .i64 0, .int .u8 0, .int .u8 0, .int .u8 0, .int .u8 0, .int .u8 0, .int .u8 0, .int .u8 0, .int .u8 0, .int .u8 0, .int .u8 0, .int .u8 0, .int .u8 0, .int .u8 0, .int .u8 0, .int .u8 0, .int .u8 0] 25)) = W at *
      have hfam := HP2.out.fam
      have hl0 := HP2.out.live 0 (by decide)
      have HP3 := Lib.hid (HP2.out.setFam 6)
      have HR3 := Lib.hid (HR2.out.other (G' := w.heap.size) (i := 0) (by omega) (.int .i64 6))
      have hbel := HB.out.setCell (p := ⟨w.heap.size, 0, none⟩) (Nat.le_refl _) (.int .i64 6)
      go_wp2_with (first | refine load_addr HP3 _ rfl rfl rfl ?_ | (refine store_addr HR3 _ _ H16 rfl rfl rfl rfl (fun W HW HA => ?_)))
      refine bodyPost_ret (v := addrV 6 bs) (results_addr Tryd.results8 rfl HA.out) rfl ⟨rfl, by rw [HW.out]; exact below_cells (by omega) _ _ _ hbel⟩
    · go_enter Tryd.func8, Tryd.ntmps8
      go_upto_if 6 with fail
      generalize ((w.alloc (.cells #[.int .i64 f, .int .u8 (y0 : Int), .int .u8 (y1 : Int), .int .u8 (y2 : Int), .int .u8 (y3 : Int), .int .u8 (y4 : Int), .int .u8 (y5 : Int), .int .u8 (y6 : Int), .int .u8 (y7 : Int), .int .u8 (y8 : Int), .int .u8 (y9 : Int), .int .u8 (y10 : Int), .int .u8 (y11 : Int), .int .u8 (y12 : Int), .int .u8 (y13 : Int), .int .u8 (y14 : Int), .int .u8 (y15 : Int)] 25)).alloc (.cells #[.int .i64 0, .int .u8 0, .int .u8 0, .int .u8 0, .int .u8 0, .int .u8 0, .int .u8 0, .int .u8 0, .int .u8 0, .int .u8 0, .int .u8 0, .int .u8 0, .int .u8 0, .int .u8 0, .int .u8 0, .int .u8 0, .int .u8 0] 25)) = W at *
      have hfam := HP2.out.fam
      have hl0 := HP2.out.live 0 (by decide)
      have HP3 := Lib.hid (HP2.out.setFam 6)
      have HR3 := Lib.hid (HR2.out.other (G' := w.heap.size) (i := 0) (by omega) (.int .i64 6))
      have hbel := HB.out.setCell (p := ⟨w.heap.size, 0, none⟩) (Nat.le_refl _) (.int .i64 6)
      go_wp2_with (first | refine load_addr HP3 _ rfl rfl rfl ?_ | (refine store_addr HR3 _ _ H16 rfl rfl rfl rfl (fun W HW HA => ?_)))
      refine bodyPost_ret (v := addrV 6 bs) (results_addr Tryd.results8 rfl HA.out) rfl ⟨rfl, by rw [HW.out]; exact below_cells (by omega) _ _ _ hbel⟩
end Go.Proofs.YtgbajagacmfcmaaDoor
/- The digits of a number in a base, as the statement TextBases lays them, are read as the number; and the contract of the reference's Around. -/
namespace Go.Proofs.YtgbajagacmfcmaaDoor
open Go.RowKit
set_option linter.unusedVariables false
set_option maxRecDepth 20000

def hexd (d : Nat) : UInt8 := if d < 10 then UInt8.ofNat (48 + d) else UInt8.ofNat (87 + d)
theorem digC_hexd (d : Nat) (h : d < 16) : digC (hexd d).toNat = d := by
  unfold hexd
  by_cases h1 : d < 10
  · rw [if_pos h1, UInt8.toNat_ofNat', Nat.mod_eq_of_lt (by omega)]
    unfold digC
    rw [if_pos (by omega)]
    omega
  · rw [if_neg h1, UInt8.toNat_ofNat', Nat.mod_eq_of_lt (by omega)]
    unfold digC
    rw [if_neg (by omega), if_pos (by omega)]
    omega
/-- The sixteen digits. -/
def hexs : ByteArray := { data := #[48, 49, 50, 51, 52, 53, 54, 55, 56, 57, 97, 98, 99, 100, 101, 102] }
theorem hexs_at (d : Nat) (h : d < 16) : hexs.extract d (d + 1) = { data := #[hexd d] } := by
  have hd : d = 0 ∨ d = 1 ∨ d = 2 ∨ d = 3 ∨ d = 4 ∨ d = 5 ∨ d = 6 ∨ d = 7 ∨ d = 8 ∨ d = 9 ∨ d = 10 ∨ d = 11 ∨ d = 12 ∨ d = 13 ∨ d = 14 ∨ d = 15 := by omega
  rcases hd with rfl | rfl | rfl | rfl | rfl | rfl | rfl | rfl | rfl | rfl | rfl | rfl | rfl | rfl | rfl | rfl <;> decide
/-- The lowest i digits of n. -/
def dstr (n b : Nat) : Nat → ByteArray
  | 0 => { data := #[] }
  | i + 1 => hexs.extract (n / b ^ i % b) (n / b ^ i % b + 1) ++ dstr n b i
theorem dstr_list (n b : Nat) (hb0 : 0 < b) (hb : b ≤ 16) (i : Nat) : (dstr n b (i + 1)).data.toList = hexd (n / b ^ i % b) :: (dstr n b i).data.toList := by
  have := Nat.mod_lt (n / b ^ i) hb0
  rw [dstr, hexs_at _ (by omega), data_append]
  rfl
theorem dstr_size (n b : Nat) (hb0 : 0 < b) (hb : b ≤ 16) : ∀ i, (dstr n b i).size = i
  | 0 => rfl
  | i + 1 => by
    have h := congrArg List.length (dstr_list n b hb0 hb i)
    have ih := dstr_size n b hb0 hb i
    simp at h
    omega
theorem dstr_byte (n b : Nat) (hb0 : 0 < b) (hb : b ≤ 16) : ∀ i k, k < i → byteOf (dstr n b i) k = (hexd (n / b ^ (i - 1 - k) % b)).toNat
  | 0, k, h => by omega
  | i + 1, 0, h => by
    unfold byteOf
    rw [dstr_list n b hb0 hb i]
    simp
  | i + 1, k + 1, h => by
    have ih := dstr_byte n b hb0 hb i k (by omega)
    unfold byteOf at ih ⊢
    rw [dstr_list n b hb0 hb i, show i + 1 - 1 - (k + 1) = i - 1 - k by omega, ← ih]
    rfl
theorem dstr_numTo (n b : Nat) (hb0 : 2 ≤ b) (hb : b ≤ 16) (hn : n ≤ most) (hlt : n < b ^ 14) : ∀ k, k ≤ 14 → numTo (dstr n b 14) b k = some (n / b ^ (14 - k))
  | 0, _ => by rw [numTo, Nat.sub_zero, Nat.div_eq_of_lt hlt]
  | k + 1, h => by
    rw [numTo, dstr_numTo n b hb0 hb hn hlt k (by omega), dstr_byte n b (by omega) hb 14 k (by omega), show 14 - 1 - k = 13 - k by omega, show 14 - (k + 1) = 13 - k by omega]
    have hm : n / b ^ (13 - k) % b < b := Nat.mod_lt _ (by omega)
    rw [digC_hexd _ (by omega)]
    have e : n / b ^ (14 - k) * b + n / b ^ (13 - k) % b = n / b ^ (13 - k) := by
      rw [show 14 - k = (13 - k) + 1 by omega, Nat.pow_succ, ← Nat.div_div_eq_div_mul, Nat.mul_comm]
      exact Nat.div_add_mod _ _
    have hle : n / b ^ (13 - k) ≤ n := Nat.div_le_self _ _
    simp only [e]
    rw [if_neg (by omega), if_neg (by omega)]
theorem dstr_num (n b : Nat) (hb0 : 2 ≤ b) (hb : b ≤ 16) (hn : n ≤ most) (hlt : n < b ^ 14) : numB (dstr n b 14) b = some n := by
  unfold numB
  rw [dstr_size n b (by omega) hb, if_neg (by omega), dstr_numTo n b hb0 hb hn hlt 14 (Nat.le_refl _)]
  simp
theorem num_bad (s : ByteArray) (b j : Nat) (hj : j < s.size) (h : b ≤ digC (byteOf s j)) : numB s b = none := by
  apply numB_dead hj
  rw [numTo]
  cases numTo s b j with
  | none => rfl
  | some n => simp only [if_pos h]
theorem num_behind (s X : ByteArray) (b : Nat) (hb : b ≤ 16) (hX : X.data.toList = [103]) : numB (s ++ X) b = none := by
  apply num_bad _ _ s.size
  · rw [ByteArray.size_append]
    have : X.data.toList.length = 1 := by rw [hX]; rfl
    simp at this
    omega
  · have e : byteOf (s ++ X) s.size = 103 := by
      unfold byteOf
      rw [data_append, hX, List.getD_eq_getElem?_getD, List.getElem?_append_right (by simp)]
      simp
    rw [e]
    have : digC 103 = 16 := by decide
    omega
theorem num_ahead (s X : ByteArray) (b : Nat) (hb : b ≤ 16) (hX : X.data.toList = [45]) : numB (X ++ s) b = none := by
  apply num_bad _ _ 0
  · rw [ByteArray.size_append]
    have : X.data.toList.length = 1 := by rw [hX]; rfl
    simp at this
    omega
  · have e : byteOf (X ++ s) 0 = 45 := by
      unfold byteOf
      rw [data_append, hX]
      rfl
    rw [e]
    have : digC 45 = 16 := by decide
    omega

theorem numRet_some (n : Nat) : numRet (some n) = .tuple #[.int .i64 (n : Int), .bool true] := rfl
theorem numRet_none : numRet none = .tuple #[.int .i64 0, .bool false] := rfl

/-- A number, from 0 on, modulo q. -/
def aroundN (n : Int) (q : Nat) : Nat := (if n < 0 then -(n + 1) else n).toNat % q
theorem aroundN_lt (n : Int) (q : Nat) (h : 0 < q) : aroundN n q < q := Nat.mod_lt _ h

set_option maxHeartbeats 400000 in
theorem around_any (n : Int) (q : Nat) (w : World) (hn : (Lit.int .i64 n).wf = true) (hq : 0 < q) (hq2 : q ≤ 4611686018427387904) :
    Calls Tryd.prog 26 #[.int .i64 n, .int .i64 (q : Int)] w fun e w' => e = .returned (.int .i64 ((aroundN n q : Nat) : Int)) ∧ w = w' := by
  have hb := bounds_i64 hn
  by_cases h : n < 0
  · obtain ⟨m, hm⟩ : ∃ m : Nat, -(n + 1) = (m : Int) := ⟨(-(n + 1)).toNat, by omega⟩
    have e : aroundN n q = m % q := by unfold aroundN; rw [if_pos h, hm]; rfl
    rw [e]
    go_enter Tryd.func26, Tryd.ntmps26
    go_wp2
    go_ret
    exact ⟨by first | rfl | simp, rfl⟩
  · obtain ⟨m, rfl⟩ : ∃ m : Nat, n = (m : Int) := ⟨n.toNat, by omega⟩
    have e : aroundN m q = m % q := by unfold aroundN; rw [if_neg h]; rfl
    rw [e]
    go_enter Tryd.func26, Tryd.ntmps26
    go_wp2
    go_ret
    exact ⟨by first | rfl | simp, rfl⟩
end Go.Proofs.YtgbajagacmfcmaaDoor
/- Contracts of the reference's Mask and Good of layer 5. -/
namespace Go.Proofs.YtgbajagacmfcmaaDoor
open Go.RowKit
set_option linter.unusedVariables false
set_option maxRecDepth 20000

/-- How many bits a mask keeps. -/
def maskN (f : Int) (n : Int) : Nat := min n.toNat (bitsN f)
theorem maskN_le (f n : Int) : maskN f n ≤ bitsN f := Nat.min_le_right _ _
theorem maskN_max (f n : Int) : min (max n 0) (bitsN f : Int) = (maskN f n : Int) := by unfold maskN; omega
set_option maxRecDepth 100000 in
set_option maxHeartbeats 2000000 in
theorem refMask_any (f : Int) (bs : List Nat) (n : Int) (w : World) (h16 : bs.length = 16) (hlt : ∀ x ∈ bs, x < 256) (hn : (Lit.int .i64 n).wf = true) :
    Calls Tryd.prog 15 #[addrV f bs, .int .i64 n] w fun e w' => e = .returned (prefV f (withL (bitsN f) bs (maskN f n) 0) (maskN f n)) ∧ Below w.heap.size w w' := by
  have H16 := Lib.hid h16
  have HN := bitsN_le f
  have hmN := maskN_le f n
  have HM := Lib.hid (maskN_max f n)
  have HBI := fun W => Lib.hid (refBits_any f bs W h16)
  have HWI := fun W => Lib.hid (refWith_any f bs (maskN f n) 0 W h16 hlt (by omega) (by decide))
  have HLN : Hid ((withL (bitsN f) bs (maskN f n) 0).length = 16) := Lib.hid (withL_len _ _ _ _)
  obtain ⟨cs, ecs, HA, HB⟩ := addr_boxed f bs w h16
  have HR := pref_zeroed (w.alloc (.cells cs 25))
  rw [heap_alloc] at HR
  have HRH := Lib.hid HR
  have HA1 := Lib.hid (HA.out.alloc (.cells zP 27))
  have HB1 := Lib.hid (HB.out.alloc HB.out.size (.cells zP 27))
  rw [ecs]
  generalize withL (bitsN f) bs (maskN f n) 0 = R at *
  generalize maskN f n = m at *
  generalize bitsN f = N at *
  clear ecs h16 hlt HA HB HR
  go_enter Tryd.func15, Tryd.ntmps15
  go_upto_region 1 with fail
  generalize ((w.alloc (.cells cs 25)).alloc (.cells zP 27)) = W at *
  go_cut [5] from 6 (fun s5 wx => s5 = .int .i64 (m : Int) ∧ Hid (AddrAt wx w.heap.size f bs) ∧ Hid (PrefAt wx (w.heap.size + 1) 0 (List.replicate 16 0) 0) ∧ Hid (Below w.heap.size w wx))
  case first =>
    have hm := HM.out
    have hb := bounds_i64 hn
    obtain ⟨h, e⟩ | ⟨h, h', e⟩ | ⟨h, h', e⟩ : (n < 0 ∧ (m : Int) = 0) ∨ (¬ n < 0 ∧ n ≤ (N : Int) ∧ (m : Int) = n) ∨ (¬ n < 0 ∧ (N : Int) < n ∧ (m : Int) = (N : Int)) := by omega
    all_goals
      clear hm
      have HE := Lib.hid e
      clear e
      go_wp2_with (refine load_addr_g HA1 _ rfl rfl rfl ?_)
      refine (HBI _).out.mono ?_
      rintro e w1 ⟨rfl, hb1⟩
      have HA2 := Lib.hid (HA1.out.below hb1)
      have HR2 := Lib.hid (HRH.out.below hb1)
      have HB2 := Lib.hid (chain HB1.out hb1)
      clear HA1 HRH HB1 hb1
      go_wp2_with fail
      all_goals
        go_meet
        case rel => exact ⟨by have := HE.out; congr 1; omega, HA2, HR2, HB2⟩
  case rest =>
    obtain ⟨rfl, HA2, HR2, HB2⟩ := hcut
    clear HA1 HRH HB1 HBI
    go_wp2_with (refine load_addr_g HA2 _ rfl rfl rfl ?_)
    refine (HWI _).out.mono ?_
    rintro e w1 ⟨rfl, hb1⟩
    have HR3 := Lib.hid (HR2.out.below hb1)
    have HB3 := Lib.hid (chain HB2.out hb1)
    clear HA2 HR2 HB2 hb1 HWI
    go_wp2_with (first | refine build_pref HLN rfl _ _ rfl rfl rfl ?_ | refine store_pref HR3 _ _ HLN rfl rfl rfl rfl (fun W HW HP => ?_))
    refine bodyPost_ret (v := prefV f R m) (results_pref Tryd.results15 rfl HP.out) rfl ⟨rfl, by rw [HW.out]; exact below_cells (by omega) _ _ _ HB3.out⟩
end Go.Proofs.YtgbajagacmfcmaaDoor
/- Contract of the reference's Compare of layer 4. -/
namespace Go.Proofs.YtgbajagacmfcmaaDoor
open Go.RowKit
set_option linter.unusedVariables false
set_option maxRecDepth 20000

/-- Which of two rows of bytes comes first. -/
def cmpL : List Nat → List Nat → Int
  | x :: xs, y :: ys => if x < y then -1 else if y < x then 1 else cmpL xs ys
  | _, _ => 0
/-- The row of addresses. -/
def cmpA (f : Int) (xs : List Nat) (g : Int) (ys : List Nat) : Int := if f = g then cmpL xs ys else if f < g then -1 else 1
theorem cmpL_at (xs ys : List Nat) (k : Nat) (hx : xs.length = 16) (hy : ys.length = 16) (hk : k < 16) :
    cmpL (xs.drop k) (ys.drop k) = if xs.getD k 0 < ys.getD k 0 then -1 else if ys.getD k 0 < xs.getD k 0 then 1 else cmpL (xs.drop (k + 1)) (ys.drop (k + 1)) := by
  rw [List.drop_eq_getElem_cons (show k < xs.length by omega), List.drop_eq_getElem_cons (show k < ys.length by omega), cmpL, List.getD_eq_getElem?_getD, List.getD_eq_getElem?_getD, List.getElem?_eq_getElem (by omega), List.getElem?_eq_getElem (by omega)]
  rfl
theorem cmpL_end (xs ys : List Nat) (hx : xs.length = 16) : cmpL (xs.drop 16) (ys.drop 16) = 0 := by
  rw [List.drop_eq_nil_of_le (by omega)]
  rfl
set_option maxRecDepth 100000 in
set_option maxHeartbeats 2000000 in
theorem refCompare_any (f : Int) (xs : List Nat) (g : Int) (ys : List Nat) (w : World) (h16x : xs.length = 16) (h16 : ys.length = 16) :
    Calls Tryd.prog 61 #[addrV f xs, addrV g ys] w fun e w' => e = .returned (.int .i64 (cmpA f xs g ys)) ∧ Below w.heap.size w w' := by
  have HX := Lib.hid h16x
  have HY := Lib.hid h16
  obtain ⟨x0, x1, x2, x3, x4, x5, x6, x7, x8, x9, x10, x11, x12, x13, x14, x15, hxs⟩ := list16 xs h16x
  have ha : addrV f xs = .agg #[.int .i64 f, .int .u8 (x0 : Int), .int .u8 (x1 : Int), .int .u8 (x2 : Int), .int .u8 (x3 : Int), .int .u8 (x4 : Int), .int .u8 (x5 : Int), .int .u8 (x6 : Int), .int .u8 (x7 : Int), .int .u8 (x8 : Int), .int .u8 (x9 : Int), .int .u8 (x10 : Int), .int .u8 (x11 : Int), .int .u8 (x12 : Int), .int .u8 (x13 : Int), .int .u8 (x14 : Int), .int .u8 (x15 : Int)] := by rw [hxs]; rfl
  obtain ⟨y0, y1, y2, y3, y4, y5, y6, y7, y8, y9, y10, y11, y12, y13, y14, y15, hys⟩ := list16 ys h16
  have hb : addrV g ys = .agg #[.int .i64 g, .int .u8 (y0 : Int), .int .u8 (y1 : Int), .int .u8 (y2 : Int), .int .u8 (y3 : Int), .int .u8 (y4 : Int), .int .u8 (y5 : Int), .int .u8 (y6 : Int), .int .u8 (y7 : Int), .int .u8 (y8 : Int), .int .u8 (y9 : Int), .int .u8 (y10 : Int), .int .u8 (y11 : Int), .int .u8 (y12 : Int), .int .u8 (y13 : Int), .int .u8 (y14 : Int), .int .u8 (y15 : Int)] := by rw [hys]; rfl
  rw [ha, hb]
  have hA := AddrAt.new w 25 f x0 x1 x2 x3 x4 x5 x6 x7 x8 x9 x10 x11 x12 x13 x14 x15
  rw [← hxs] at hA
  have hB := AddrAt.new (w.alloc (.cells #[.int .i64 f, .int .u8 (x0 : Int), .int .u8 (x1 : Int), .int .u8 (x2 : Int), .int .u8 (x3 : Int), .int .u8 (x4 : Int), .int .u8 (x5 : Int), .int .u8 (x6 : Int), .int .u8 (x7 : Int), .int .u8 (x8 : Int), .int .u8 (x9 : Int), .int .u8 (x10 : Int), .int .u8 (x11 : Int), .int .u8 (x12 : Int), .int .u8 (x13 : Int), .int .u8 (x14 : Int), .int .u8 (x15 : Int)] 25)) 25 g y0 y1 y2 y3 y4 y5 y6 y7 y8 y9 y10 y11 y12 y13 y14 y15
  rw [← hys] at hB
  have e1 : (w.alloc (.cells #[.int .i64 f, .int .u8 (x0 : Int), .int .u8 (x1 : Int), .int .u8 (x2 : Int), .int .u8 (x3 : Int), .int .u8 (x4 : Int), .int .u8 (x5 : Int), .int .u8 (x6 : Int), .int .u8 (x7 : Int), .int .u8 (x8 : Int), .int .u8 (x9 : Int), .int .u8 (x10 : Int), .int .u8 (x11 : Int), .int .u8 (x12 : Int), .int .u8 (x13 : Int), .int .u8 (x14 : Int), .int .u8 (x15 : Int)] 25)).heap.size = w.heap.size + 1 := by simp
  rw [e1] at hB
  have b1 : Below w.heap.size w (w.alloc (.cells #[.int .i64 f, .int .u8 (x0 : Int), .int .u8 (x1 : Int), .int .u8 (x2 : Int), .int .u8 (x3 : Int), .int .u8 (x4 : Int), .int .u8 (x5 : Int), .int .u8 (x6 : Int), .int .u8 (x7 : Int), .int .u8 (x8 : Int), .int .u8 (x9 : Int), .int .u8 (x10 : Int), .int .u8 (x11 : Int), .int .u8 (x12 : Int), .int .u8 (x13 : Int), .int .u8 (x14 : Int), .int .u8 (x15 : Int)] 25)) := (Below.refl _ _).alloc (Nat.le_refl _) _
  have B0 := Lib.hid (b1.alloc b1.size (.cells #[.int .i64 g, .int .u8 (y0 : Int), .int .u8 (y1 : Int), .int .u8 (y2 : Int), .int .u8 (y3 : Int), .int .u8 (y4 : Int), .int .u8 (y5 : Int), .int .u8 (y6 : Int), .int .u8 (y7 : Int), .int .u8 (y8 : Int), .int .u8 (y9 : Int), .int .u8 (y10 : Int), .int .u8 (y11 : Int), .int .u8 (y12 : Int), .int .u8 (y13 : Int), .int .u8 (y14 : Int), .int .u8 (y15 : Int)] 25))
  have HA := Lib.hid (hA.below ((Below.refl _ _).alloc (Nat.le_refl _) (.cells #[.int .i64 g, .int .u8 (y0 : Int), .int .u8 (y1 : Int), .int .u8 (y2 : Int), .int .u8 (y3 : Int), .int .u8 (y4 : Int), .int .u8 (y5 : Int), .int .u8 (y6 : Int), .int .u8 (y7 : Int), .int .u8 (y8 : Int), .int .u8 (y9 : Int), .int .u8 (y10 : Int), .int .u8 (y11 : Int), .int .u8 (y12 : Int), .int .u8 (y13 : Int), .int .u8 (y14 : Int), .int .u8 (y15 : Int)] 25)))
  have HB := Lib.hid hB
  clear ha hb hxs hys h16 h16x hA hB b1 e1
  by_cases hfg : f = g
  · subst hfg
    have HC : Hid (cmpA f xs f ys = cmpL xs ys) := Lib.hid (if_pos rfl)
    go_enter Tryd.func61, Tryd.ntmps61
    go_wp2_with fail
    generalize ((w.alloc (.cells #[.int .i64 f, .int .u8 (x0 : Int), .int .u8 (x1 : Int), .int .u8 (x2 : Int), .int .u8 (x3 : Int), .int .u8 (x4 : Int), .int .u8 (x5 : Int), .int .u8 (x6 : Int), .int .u8 (x7 : Int), .int .u8 (x8 : Int), .int .u8 (x9 : Int), .int .u8 (x10 : Int), .int .u8 (x11 : Int), .int .u8 (x12 : Int), .int .u8 (x13 : Int), .int .u8 (x14 : Int), .int .u8 (x15 : Int)] 25)).alloc (.cells #[.int .i64 f, .int .u8 (y0 : Int), .int .u8 (y1 : Int), .int .u8 (y2 : Int), .int .u8 (y3 : Int), .int .u8 (y4 : Int), .int .u8 (y5 : Int), .int .u8 (y6 : Int), .int .u8 (y7 : Int), .int .u8 (y8 : Int), .int .u8 (y9 : Int), .int .u8 (y10 : Int), .int .u8 (y11 : Int), .int .u8 (y12 : Int), .int .u8 (y13 : Int), .int .u8 (y14 : Int), .int .u8 (y15 : Int)] 25)) = W at *
    have hbel0 := B0.out
    go_loopw [5] (fun i wr => ∃ k : Nat, k ≤ 16 ∧ i = .int .i64 (k : Int) ∧ Hid (cmpL xs ys = cmpL (xs.drop k) (ys.drop k)) ∧ Hid (AddrAt wr w.heap.size f xs) ∧ Hid (AddrAt wr (w.heap.size + 1) f ys) ∧ Below w.heap.size w wr) (fun i _ => 16 - (intOf i).toNat)
    case atStart => exact ⟨0, by decide, rfl, Lib.hid rfl, HA, HB, hbel0⟩
    case round =>
      obtain ⟨k, hk, rfl, HK, HA, HB, hbel⟩ := hrel
      by_cases hk16 : k < 16
      · have hca := HA.out.cells k hk16
        have hcb := HB.out.cells k hk16
        have k1 : (k : Int) < 16 := by omega
        have hz := cmpL_at xs ys k HX.out HY.out hk16
        rw [← HK.out] at hz
        generalize xs.getD k 0 = x at *
        generalize ys.getD k 0 = y at *
        by_cases hxy : x < y
        · rw [if_pos hxy] at hz
          have HZ := Lib.hid hz
          clear hz
          have o1 : (x : Int) < (y : Int) := by omega
          go_wp2_with fail
          go_region
          go_wp2_with fail
          go_ret
          exact ⟨by rw [HC.out, HZ.out]; rfl, hbel.drew⟩
        · by_cases hyx : y < x
          · rw [if_neg hxy, if_pos hyx] at hz
            have HZ := Lib.hid hz
            clear hz
            have o1 : ¬ ((x : Int) < (y : Int)) := by omega
            have o2 : (y : Int) < (x : Int) := by omega
            go_wp2_with fail
            go_region
            go_wp2_with fail
            go_region
            go_wp2_with fail
            go_ret
            exact ⟨by rw [HC.out, HZ.out]; rfl, hbel.drew.drew⟩
          · rw [if_neg hxy, if_neg hyx] at hz
            have HZ := Lib.hid hz
            clear hz
            obtain rfl : x = y := by omega
            have o1 : ¬ ((x : Int) < (x : Int)) := by omega
            go_wp2_with fail
            go_region
            go_wp2_with fail
            go_region
            go_wp2_with fail
            go_roundw
            case rel => exact ⟨k + 1, by omega, by go_num, HZ, Lib.hid ((HA.out.below (Below.refl _ _).drew).below (Below.refl _ _).drew), Lib.hid ((HB.out.below (Below.refl _ _).drew).below (Below.refl _ _).drew), hbel.drew.drew⟩
            case measure => simp [intOf]; omega
      · obtain rfl : k = 16 := by omega
        have HZ := Lib.hid (HK.out.trans (cmpL_end xs ys HX.out))
        go_wp2_with fail
        go_ret
        exact ⟨by rw [HC.out, HZ.out]; rfl, hbel⟩
  · have n1 : (f != g) = true := by simp [hfg]
    by_cases hl : f < g
    · have HC : Hid (cmpA f xs g ys = -1) := Lib.hid (by unfold cmpA; rw [if_neg hfg, if_pos hl])
      go_enter Tryd.func61, Tryd.ntmps61
      go_wp2_with fail
      go_ret
      exact ⟨by rw [HC.out]; rfl, B0.out⟩
    · have HC : Hid (cmpA f xs g ys = 1) := Lib.hid (by unfold cmpA; rw [if_neg hfg, if_neg hl])
      go_enter Tryd.func61, Tryd.ntmps61
      go_wp2_with fail
      go_ret
      exact ⟨by rw [HC.out]; rfl, B0.out⟩
end Go.Proofs.YtgbajagacmfcmaaDoor

/- Texts that belong together, one behind the other: SolLives, Numbers, Digits. -/
import Derived.Test.YtedmkdjijhflnaaB5
import Derived.OpenShut
/- lives of layer 12: the document's example. -/
namespace Go.Proofs.Ytedmkdjijhflnaa
open Go.RowKit Go.Sort Go.Shelf Go.Maps
set_option linter.unusedVariables false
set_option maxRecDepth 20000
set_option linter.unusedSimpArgs false

set_option maxRecDepth 100000 in
set_option maxHeartbeats 4000000 in
theorem lives12_any (w : World) :
    Calls Try.prog 18 #[] w fun e w' => e = .returned (.bool true) ∧ Below w.heap.size w w' := by
  have HNW := Lib.hid (newQ_any 2 2 5 1 w)
  have hcf : cfgP 2 2 5 1 = cfg12 := rfl
  rw [hcf] at HNW
  have HST := fun G cp b W (h : SolQ W w.heap.size G cp b cfg12 0 (.slice none 0 0) []) => Lib.hid (startQ_any w.heap.size G cp b nmA 1 7 0 cfg12 0 (.slice none 0 0) [] W h lv_ask (by decide) (by decide) (by decide) (by decide) (by decide) (by decide) (by decide) (by decide))
  have HT1 := fun G cp b v g W (h : SolQ W w.heap.size G cp b cfg12 1 v [(g, lv1)]) => Lib.hid (tickQ_any w.heap.size G cp b 8 5 cfg12 1 v [(g, lv1)] W h (by intro p hp; rw [List.mem_singleton.1 hp]; show (0 : Int) < 2; decide) (by decide) (by decide) (by decide) (by simp))
  have HT2 := fun G cp b v g W (h : SolQ W w.heap.size G cp b cfg12 1 v [(g, lv2)]) => Lib.hid (tickQ_any w.heap.size G cp b 9 10 cfg12 1 v [(g, lv2)] W h (by intro p hp; rw [List.mem_singleton.1 hp]; show (1 : Int) < 2; decide) (by decide) (by decide) (by decide) (by simp))
  simp only [lv_t1, lv_e1] at HT1
  simp only [lv_t2, lv_e2] at HT2
  simp only [lv_new, List.length_nil, List.nil_append] at HST
  have HBD : Try.prog.built 53 [(0, .int .i64 2), (1, .int .i64 2), (2, .int .i64 5), (3, .int .i64 1)] = some #[.int .i64 2, .int .i64 2, .int .i64 5, .int .i64 1] := built_cf 2 2 5 1
  go_enter Try.func18, Try.ntmps18
  go_wp2_with (refine build_of rfl rfl HBD (by simp only [List.map_toArray, List.map_cons, List.map_nil]; rfl) ?_)
  refine HNW.out.mono ?_
  rintro e w1 ⟨G, cp, b, rfl, hq, hb⟩
  have HB1 := Lib.hid hb
  have HS1 := HST G cp b w1 hq
  clear HNW hq hb HST hcf HBD
  go_wp2_with fail
  unfold nmA at HS1
  refine HS1.out.mono ?_
  rintro e w2 ⟨ev, v2, A2, rfl, hq, hb, _, hd⟩
  obtain ⟨_, rfl, g, rfl⟩ : 0 ≠ 16 ∧ ev = evS lv1 ∧ ∃ g, A2 = [(g, lv1)] := by
    rcases hd with ⟨h, _⟩ | h
    · cases h
    · exact h
  have HQ2 := Lib.hid hq
  have HB2 := Lib.hid (HB1.out.trans hb)
  clear hq hb hd HS1
  have HEV : evV (evS lv1) = .agg #[.int .i64 0, .int .i64 0, .int .i64 7, .string ⟨#[97]⟩, .int .i64 1, .int .i64 0, .slice none 0 0, .int .i64 0] := rfl
  rw [HEV]
  have HZ3 := Lib.hid (zeroEv w2 56)
  have hb3 := (Below.refl w2.heap.size w2).alloc (Nat.le_refl _) (.cells #[.int .i64 0, .int .i64 0, .int .i64 0, .string ⟨#[]⟩, .int .i64 0, .int .i64 0, .slice none 0 0, .int .i64 0] 56)
  obtain ⟨W3, hW3⟩ : ∃ W3, w2.alloc (.cells #[.int .i64 0, .int .i64 0, .int .i64 0, .string ⟨#[]⟩, .int .i64 0, .int .i64 0, .slice none 0 0, .int .i64 0] 56) = W3 := ⟨_, rfl⟩
  rw [hW3] at HZ3 hb3
  have HB3 := Lib.hid hb3
  clear hb3
  go_upto_region 5 with (refine store_of HZ3 rfl ev_size _ _ rfl rfl rfl (vs := evL (evS lv1)) rfl rfl rfl (fun U HU HUC => ?_))
  try simp only [Act.put]
  have hU : Below w2.heap.size w2 U := by rw [HU.out]; exact below_cells (Nat.le_refl _) _ _ _ HB3.out
  have HT := HT1 G cp b v2 g U (HQ2.out.below hU)
  have HB4 := Lib.hid (HB2.out.trans (hU.mono HQ2.out.lt))
  have HQB : Hid (w.heap.size ≤ w2.heap.size) := Lib.hid HQ2.out.lt
  have HNE : Hid (w2.heap.size ∉ fpO G v2 [(g, lv1)]) := Lib.hid (fun e => by have := fpO_lt HQ2.out.so _ e; omega)
  obtain ⟨E, hE⟩ : ∃ E, w2.heap.size = E := ⟨_, rfl⟩
  rw [hE] at HUC HQB HNE
  have HEL : Hid (w.heap.size ≤ E ∧ E < U.heap.size) := Lib.hid ⟨HQB.out, HUC.out.lt⟩
  rw [hE]
  clear HU HB3 HZ3 hW3 hE hU HT1 HQ2 HB2 HQB HB1
  go_wp2_with fail
  refine HT.out.mono ?_
  rintro e w3 ⟨v3, ve, rfl, hr, hq, hb, hf, hk⟩
  obtain ⟨g3, c3, rfl, hg3, hg3l, hr3⟩ := hr.one
  have HT' := HT2 G cp b v3 g w3 hq
  have HE3 := Lib.hid (HUC.out.foot hf HNE.out)
  have HN3 : Hid (E ∉ fpO G v3 [(g, lv2)]) := Lib.hid (hf.out HEL.out.2 HNE.out)
  have HG3 : Hid (g3 ∉ fpO G v3 [(g, lv2)]) := Lib.hid (fun e => by have := hk _ e; omega)
  have HB5 := Lib.hid (HB4.out.trans hb)
  have HR3 := Lib.hid hr3
  have HL3 := Lib.hid hg3l
  clear hr hq hb hf hk hg3 hg3l hr3 HT HT2 HUC HNE HB4 HEL
  go_wp2_with fail
  refine HT'.out.mono ?_
  rintro e w4 ⟨v4, ve4, rfl, hr, hq, hb, hf, hk⟩
  obtain ⟨g4, c4, rfl, hg4, hg4l, hr4⟩ := hr.one
  have HE4 := HE3.out.foot hf HN3.out
  have HR4 := range_foot hf HR3.out HL3.out HG3.out
  have HB6 := Lib.hid (HB5.out.trans hb)
  have e0 := HE4.cell 0 _ rfl
  have e2 := HE4.cell 2 _ rfl
  have f0 := HR4 0 _ rfl
  have f5 := HR4 5 _ rfl
  have k0 := hr4 0 _ rfl
  have k7 := hr4 7 _ rfl
  simp only [Nat.zero_add] at f0 f5 k0 k7
  clear HT' HE3 HN3 HG3 HB5 HR3 HL3 hr hq hb hf hk hg4 hg4l hr4 HE4 HR4
  go_wp2_with fail
  go_ret
  exact ⟨rfl, HB6.out⟩
end Go.Proofs.Ytedmkdjijhflnaa
/- Contracts of text.digit and text.Number: the number of a text's digits. -/
namespace Go.Proofs.Ytedmkdjijhflnaa
open Go.RowKit
set_option linter.unusedVariables false
set_option maxRecDepth 20000

/-- A digit's number; 16: it is none. -/
def digC (c : Nat) : Nat := if 48 ≤ c ∧ c ≤ 57 then c - 48 else if 97 ≤ c ∧ c ≤ 102 then c - 87 else if 65 ≤ c ∧ c ≤ 70 then c - 55 else 16
theorem digC_le (c : Nat) : digC c ≤ 16 := by unfold digC; split; · omega
                                              split; · omega
                                              split <;> omega
/-- The byte at a place, or 0. -/
def byteOf (s : ByteArray) (k : Nat) : Nat := (s.data.toList.getD k 0).toNat
theorem byteOf_eq (s : ByteArray) (k : Nat) (h : k < s.size) : byteOf s k = (s[k]).toNat := by
  unfold byteOf
  rw [List.getD_eq_getElem?_getD, List.getElem?_eq_getElem (by simpa using h)]; rfl
def most : Nat := 1099511627776
/-- The number of the first k digits, if there is one. -/
def numTo (s : ByteArray) (b : Nat) : Nat → Option Nat
  | 0 => some 0
  | k + 1 => match numTo s b k with
    | none => none
    | some n => if b ≤ digC (byteOf s k) then none else if most < n * b + digC (byteOf s k) then none else some (n * b + digC (byteOf s k))
def numB (s : ByteArray) (b : Nat) : Option Nat := if s.size = 0 then none else numTo s b s.size
theorem numTo_none (s : ByteArray) (b k : Nat) (h : numTo s b k = none) : ∀ m, numTo s b (k + m) = none
  | 0 => h
  | m + 1 => by rw [← Nat.add_assoc, numTo, numTo_none s b k h m]
theorem numTo_le (s : ByteArray) (b : Nat) : ∀ k n, numTo s b k = some n → n ≤ most
  | 0, n, h => by simp [numTo] at h; omega
  | k + 1, n, h => by
    rw [numTo] at h
    cases hk : numTo s b k with
    | none => rw [hk] at h; cases h
    | some m =>
      rw [hk] at h
      simp only at h
      split at h
      · cases h
      · split at h
        · cases h
        · have := Option.some.inj h; omega
theorem numTo_step {s : ByteArray} {b k n : Nat} (h : numTo s b k = some n) (hk : k < s.size) :
    numTo s b (k + 1) = if b ≤ digC (s[k]).toNat then none else if most < n * b + digC (s[k]).toNat then none else some (n * b + digC (s[k]).toNat) := by
  rw [numTo, h, byteOf_eq s k hk]
theorem numB_dead {s : ByteArray} {b k : Nat} (hk : k < s.size) (h : numTo s b (k + 1) = none) : numB s b = none := by
  unfold numB
  rw [if_neg (by omega)]
  have := numTo_none s b (k + 1) h (s.size - (k + 1))
  rwa [show k + 1 + (s.size - (k + 1)) = s.size by omega] at this
/-- What Number answers. -/
def numRet (o : Option Nat) : Value := .tuple #[.int .i64 ((o.getD 0 : Nat) : Int), .bool o.isSome]

theorem num_ret {o p : Option Nat} (h : o = p) : Ending.returned (numRet o) = .returned (numRet p) := by rw [h]

end Go.Proofs.Ytedmkdjijhflnaa
/- The digits of a number in a base, as the statement TextBases lays them, are read as the number; and the contract of the reference's Around. -/
namespace Go.Proofs.Ytedmkdjijhflnaa
open Go.RowKit
set_option linter.unusedVariables false
set_option maxRecDepth 20000

def hexd (d : Nat) : UInt8 := if d < 10 then UInt8.ofNat (48 + d) else UInt8.ofNat (87 + d)
theorem digC_hexd (d : Nat) (h : d < 16) : digC (hexd d).toNat = d := by
  unfold hexd
  by_cases h1 : d < 10
  · rw [if_pos h1, UInt8.toNat_ofNat', Nat.mod_eq_of_lt (by omega)]
    unfold digC
    rw [if_pos (by omega)]
    omega
  · rw [if_neg h1, UInt8.toNat_ofNat', Nat.mod_eq_of_lt (by omega)]
    unfold digC
    rw [if_neg (by omega), if_pos (by omega)]
    omega
/-- The sixteen digits. -/
def hexs : ByteArray := { data := #[48, 49, 50, 51, 52, 53, 54, 55, 56, 57, 97, 98, 99, 100, 101, 102] }
theorem hexs_at (d : Nat) (h : d < 16) : hexs.extract d (d + 1) = { data := #[hexd d] } := by
  have hd : d = 0 ∨ d = 1 ∨ d = 2 ∨ d = 3 ∨ d = 4 ∨ d = 5 ∨ d = 6 ∨ d = 7 ∨ d = 8 ∨ d = 9 ∨ d = 10 ∨ d = 11 ∨ d = 12 ∨ d = 13 ∨ d = 14 ∨ d = 15 := by omega
  rcases hd with rfl | rfl | rfl | rfl | rfl | rfl | rfl | rfl | rfl | rfl | rfl | rfl | rfl | rfl | rfl | rfl <;> decide
/-- The lowest i digits of n. -/
def dstr (n b : Nat) : Nat → ByteArray
  | 0 => { data := #[] }
  | i + 1 => hexs.extract (n / b ^ i % b) (n / b ^ i % b + 1) ++ dstr n b i
theorem dstr_list (n b : Nat) (hb0 : 0 < b) (hb : b ≤ 16) (i : Nat) : (dstr n b (i + 1)).data.toList = hexd (n / b ^ i % b) :: (dstr n b i).data.toList := by
  have := Nat.mod_lt (n / b ^ i) hb0
  rw [dstr, hexs_at _ (by omega), data_append]
  rfl
theorem dstr_size (n b : Nat) (hb0 : 0 < b) (hb : b ≤ 16) : ∀ i, (dstr n b i).size = i
  | 0 => rfl
  | i + 1 => by
    have h := congrArg List.length (dstr_list n b hb0 hb i)
    have ih := dstr_size n b hb0 hb i
    simp at h
    omega
theorem dstr_byte (n b : Nat) (hb0 : 0 < b) (hb : b ≤ 16) : ∀ i k, k < i → byteOf (dstr n b i) k = (hexd (n / b ^ (i - 1 - k) % b)).toNat
  | 0, k, h => by omega
  | i + 1, 0, h => by
    unfold byteOf
    rw [dstr_list n b hb0 hb i]
    simp
  | i + 1, k + 1, h => by
    have ih := dstr_byte n b hb0 hb i k (by omega)
    unfold byteOf at ih ⊢
    rw [dstr_list n b hb0 hb i, show i + 1 - 1 - (k + 1) = i - 1 - k by omega, ← ih]
    rfl
theorem dstr_numTo (n b : Nat) (hb0 : 2 ≤ b) (hb : b ≤ 16) (hn : n ≤ most) (hlt : n < b ^ 14) : ∀ k, k ≤ 14 → numTo (dstr n b 14) b k = some (n / b ^ (14 - k))
  | 0, _ => by rw [numTo, Nat.sub_zero, Nat.div_eq_of_lt hlt]
  | k + 1, h => by
    rw [numTo, dstr_numTo n b hb0 hb hn hlt k (by omega), dstr_byte n b (by omega) hb 14 k (by omega), show 14 - 1 - k = 13 - k by omega, show 14 - (k + 1) = 13 - k by omega]
    have hm : n / b ^ (13 - k) % b < b := Nat.mod_lt _ (by omega)
    rw [digC_hexd _ (by omega)]
    have e : n / b ^ (14 - k) * b + n / b ^ (13 - k) % b = n / b ^ (13 - k) := by
      rw [show 14 - k = (13 - k) + 1 by omega, Nat.pow_succ, ← Nat.div_div_eq_div_mul, Nat.mul_comm]
      exact Nat.div_add_mod _ _
    have hle : n / b ^ (13 - k) ≤ n := Nat.div_le_self _ _
    simp only [e]
    rw [if_neg (by omega), if_neg (by omega)]
theorem dstr_num (n b : Nat) (hb0 : 2 ≤ b) (hb : b ≤ 16) (hn : n ≤ most) (hlt : n < b ^ 14) : numB (dstr n b 14) b = some n := by
  unfold numB
  rw [dstr_size n b (by omega) hb, if_neg (by omega), dstr_numTo n b hb0 hb hn hlt 14 (Nat.le_refl _)]
  simp
theorem num_bad (s : ByteArray) (b j : Nat) (hj : j < s.size) (h : b ≤ digC (byteOf s j)) : numB s b = none := by
  apply numB_dead hj
  rw [numTo]
  cases numTo s b j with
  | none => rfl
  | some n => simp only [if_pos h]
theorem num_behind (s X : ByteArray) (b : Nat) (hb : b ≤ 16) (hX : X.data.toList = [103]) : numB (s ++ X) b = none := by
  apply num_bad _ _ s.size
  · rw [ByteArray.size_append]
    have : X.data.toList.length = 1 := by rw [hX]; rfl
    simp at this
    omega
  · have e : byteOf (s ++ X) s.size = 103 := by
      unfold byteOf
      rw [data_append, hX, List.getD_eq_getElem?_getD, List.getElem?_append_right (by simp)]
      simp
    rw [e]
    have : digC 103 = 16 := by decide
    omega
theorem num_ahead (s X : ByteArray) (b : Nat) (hb : b ≤ 16) (hX : X.data.toList = [45]) : numB (X ++ s) b = none := by
  apply num_bad _ _ 0
  · rw [ByteArray.size_append]
    have : X.data.toList.length = 1 := by rw [hX]; rfl
    simp at this
    omega
  · have e : byteOf (X ++ s) 0 = 45 := by
      unfold byteOf
      rw [data_append, hX]
      rfl
    rw [e]
    have : digC 45 = 16 := by decide
    omega

theorem numRet_some (n : Nat) : numRet (some n) = .tuple #[.int .i64 (n : Int), .bool true] := rfl
theorem numRet_none : numRet none = .tuple #[.int .i64 0, .bool false] := rfl

/-- A number, from 0 on, modulo q. -/
def aroundN (n : Int) (q : Nat) : Nat := (if n < 0 then -(n + 1) else n).toNat % q
theorem aroundN_lt (n : Int) (q : Nat) (h : 0 < q) : aroundN n q < q := Nat.mod_lt _ h

set_option maxHeartbeats 400000 in
theorem around_any (n : Int) (q : Nat) (w : World) (hn : (Lit.int .i64 n).wf = true) (hq : 0 < q) (hq2 : q ≤ 4611686018427387904) :
    Calls Try.prog 11 #[.int .i64 n, .int .i64 (q : Int)] w fun e w' => e = .returned (.int .i64 ((aroundN n q : Nat) : Int)) ∧ w = w' := by
  have hb := bounds_i64 hn
  by_cases h : n < 0
  · obtain ⟨m, hm⟩ : ∃ m : Nat, -(n + 1) = (m : Int) := ⟨(-(n + 1)).toNat, by omega⟩
    have e : aroundN n q = m % q := by unfold aroundN; rw [if_pos h, hm]; rfl
    rw [e]
    go_enter Try.func11, Try.ntmps11
    go_wp2
    go_ret
    exact ⟨by first | rfl | simp, rfl⟩
  · obtain ⟨m, rfl⟩ : ∃ m : Nat, n = (m : Int) := ⟨n.toNat, by omega⟩
    have e : aroundN m q = m % q := by unfold aroundN; rw [if_neg h]; rfl
    rw [e]
    go_enter Try.func11, Try.ntmps11
    go_wp2
    go_ret
    exact ⟨by first | rfl | simp, rfl⟩
end Go.Proofs.Ytedmkdjijhflnaa

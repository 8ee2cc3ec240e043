/- Texts that belong together, one behind the other: CeGet, CeNew, Numbers, RefNums, Digits, OpenDeeds10, CeNo, CacPairs, CacLets, CacDoes1, CacDoes2. -/
import Derived.Test.YtjmmedpkcedngaaB5
import Derived.OpenShut
import Derived.Lib.ItoaLen
import Derived.Lib.SmallJoins
import Derived.Deep.CutRange
/- Contracts of the reference's New, Get of layer 10. -/
namespace Go.Proofs.Ytjmmedpkcedngaa
open Go.RowKit
set_option linter.unusedVariables false
set_option maxRecDepth 20000

/-- What Get tells: the slice, and whether there is one. -/
def getC (es : List Ce) (x : ByteArray) (t now : Int) : Value := match findC es x t with
  | none => .tuple #[.slice none 0 0, .bool false]
  | some k => match es[k]? with
    | none => .tuple #[.slice none 0 0, .bool false]
    | some e => if e.u ≤ now then .tuple #[.slice none 0 0, .bool false] else .tuple #[.slice e.a e.n e.c, .bool true]
set_option maxRecDepth 100000 in
set_option maxHeartbeats 1000000 in
theorem refGetC_any (room : Int) (v : Value) (es : List Ce) (s : ByteArray) (t now : Int) (w : World) (base : Nat) (hE : RowC w base v es) (hs : s.size ≤ 2000000) :
    Calls Try.prog 25 #[ccV room v, .string s, .int .i64 t, .int .i64 now] w fun e w' => e = .returned (getC es (lowB s) t now) ∧ Below w.heap.size w w' := by
  obtain ⟨W, hW⟩ : ∃ W, w.alloc (.cells #[.int .i64 room, v] 27) = W := ⟨_, rfl⟩
  have HB : Hid (Below w.heap.size w W) := Lib.hid (by rw [← hW]; exact (Below.refl _ _).alloc (Nat.le_refl _) _)
  have HC : Hid (CellsAt W w.heap.size [.int .i64 room, v]) := Lib.hid (by rw [← hW]; exact CellsAt.new w 27 [.int .i64 room, v])
  have HE := Lib.hid (hE.below HB.out)
  have HF := Lib.hid (refFindC_any room v es s t W base HE.out hs)
  go_enter Try.func25, Try.ntmps25
  go_upto_region 1 with fail
  first | rw [hW] | skip
  clear hW
  go_wp2_with (first | refine load_cc HC rfl _ rfl rfl rfl ?_)
  refine HF.out.mono ?_
  rintro e w1 ⟨rfl, hb1⟩
  have HB1 := Lib.hid (chain HB.out hb1)
  have HC1 := Lib.hid (HC.out.below hb1)
  have HE1 := Lib.hid (HE.out.below hb1)
  clear HC HB HE HF hb1
  cases hf : findC es (lowB s) t with
  | none =>
    have hi : findI es (lowB s) t = -1 := by unfold findI; rw [hf]
    have HG : Hid (getC es (lowB s) t now = .tuple #[.slice none 0 0, .bool false]) := Lib.hid (by unfold getC; rw [hf])
    rw [hi]
    clear hf
    go_wp2_with fail
    go_ret2
    exact ⟨by rw [HG.out]; rfl, HB1.out⟩
  | some k =>
    obtain ⟨hk, _⟩ := findC_lt _ _ _ _ hf
    have hi : findI es (lowB s) t = (k : Int) := by unfold findI; rw [hf]
    have HG : Hid (getC es (lowB s) t now = if es[k].u ≤ now then .tuple #[.slice none 0 0, .bool false] else .tuple #[.slice es[k].a es[k].n es[k].c, .bool true]) := Lib.hid (by unfold getC; rw [hf]; simp only [List.getElem?_eq_getElem hk])
    rw [hi]
    rcases HE1.out.form with ⟨rfl, rfl⟩ | ⟨g, cap, rfl, hg1, hg2, hcap, hcap2, hrg⟩
    · exact absurd hk (by simp)
    have h1 := HC1.out.cell 1 _ rfl
    have hr := range_ce hrg k hk
    have hc2 : w1.cell? ⟨g, k * 4 + 2, none⟩ = some (.slice es[k].a es[k].n es[k].c) := by have := hr 2 _ rfl; simpa using this
    have hc3 : w1.cell? ⟨g, k * 4 + 3, none⟩ = some (.int .i64 es[k].u) := by have := hr 3 _ rfl; simpa using this
    have hd : decide ((k : Int) < 0) = false := by simp
    have hki : (k : Int) < (es.length : Int) := by omega
    generalize es[k] = en at *
    clear hr hrg HE1 hf
    by_cases hu : en.u ≤ now
    · have hdu : decide (en.u ≤ now) = true := decide_eq_true hu
      rw [if_pos hu] at HG
      go_wp2_with fail
      go_ret2
      exact ⟨by rw [HG.out]; rfl, HB1.out⟩
    · have hdu : decide (en.u ≤ now) = false := decide_eq_false hu
      rw [if_neg hu] at HG
      go_wp2_with fail
      go_ret2
      exact ⟨by rw [HG.out]; rfl, HB1.out⟩
end Go.Proofs.Ytjmmedpkcedngaa
/- Contract of the reference's New of layer 10. -/
namespace Go.Proofs.Ytjmmedpkcedngaa
open Go.RowKit
set_option linter.unusedVariables false
set_option maxRecDepth 20000

/-- How much room there is. -/
def roomC (n : Int) : Int := min (max n 1) 64
set_option maxRecDepth 100000 in
theorem refNewC_any (n : Int) (w : World) : Calls Try.prog 9 #[.int .i64 n] w fun e w' => e = .returned (ccV (roomC n) (.slice none 0 0)) ∧ Below w.heap.size w w' := by
  obtain ⟨W, hW⟩ : ∃ W, w.alloc (.cells #[.int .i64 0, .slice none 0 0] 27) = W := ⟨_, rfl⟩
  have HB : Hid (Below w.heap.size w W) := Lib.hid (by rw [← hW]; exact (Below.refl _ _).alloc (Nat.le_refl _) _)
  have HZ : Hid (CellsAt W w.heap.size [.int .i64 0, .slice none 0 0]) := Lib.hid (by rw [← hW]; exact CellsAt.new w 27 [.int .i64 0, .slice none 0 0])
  go_enter Try.func9, Try.ntmps9
  go_upto_region 1 with fail
  first | rw [hW] | skip
  clear hW
  go_wp2_with (first | refine build_cc1 rfl _ rfl rfl ?_ | (refine store_cc HZ rfl _ _ rfl rfl rfl rfl rfl rfl (fun V HV HVC => ?_)))
  all_goals
    refine bodyPost_ret (results_cc Try.results9 rfl HVC.out rfl) rfl ⟨?_, ?_⟩
    · refine congrArg (fun k => Ending.returned (ccV k (.slice none 0 0))) ?_
      unfold roomC
      (repeat' split) <;> omega
    · rw [HV.out]
      exact below_cells (Nat.le_refl _) _ _ _ HB.out
end Go.Proofs.Ytjmmedpkcedngaa
/- Contracts of text.digit and text.Number: the number of a text's digits. -/
namespace Go.Proofs.Ytjmmedpkcedngaa
open Go.RowKit
set_option linter.unusedVariables false
set_option maxRecDepth 20000

/-- A digit's number; 16: it is none. -/
def digC (c : Nat) : Nat := if 48 ≤ c ∧ c ≤ 57 then c - 48 else if 97 ≤ c ∧ c ≤ 102 then c - 87 else if 65 ≤ c ∧ c ≤ 70 then c - 55 else 16
theorem digC_le (c : Nat) : digC c ≤ 16 := by unfold digC; split; · omega
                                              split; · omega
                                              split <;> omega
/-- The byte at a place, or 0. -/
def byteOf (s : ByteArray) (k : Nat) : Nat := (s.data.toList.getD k 0).toNat
theorem byteOf_eq (s : ByteArray) (k : Nat) (h : k < s.size) : byteOf s k = (s[k]).toNat := by
  unfold byteOf
  rw [List.getD_eq_getElem?_getD, List.getElem?_eq_getElem (by simpa using h)]; rfl
def most : Nat := 1099511627776
/-- The number of the first k digits, if there is one. -/
def numTo (s : ByteArray) (b : Nat) : Nat → Option Nat
  | 0 => some 0
  | k + 1 => match numTo s b k with
    | none => none
    | some n => if b ≤ digC (byteOf s k) then none else if most < n * b + digC (byteOf s k) then none else some (n * b + digC (byteOf s k))
def numB (s : ByteArray) (b : Nat) : Option Nat := if s.size = 0 then none else numTo s b s.size
theorem numTo_none (s : ByteArray) (b k : Nat) (h : numTo s b k = none) : ∀ m, numTo s b (k + m) = none
  | 0 => h
  | m + 1 => by rw [← Nat.add_assoc, numTo, numTo_none s b k h m]
theorem numTo_le (s : ByteArray) (b : Nat) : ∀ k n, numTo s b k = some n → n ≤ most
  | 0, n, h => by simp [numTo] at h; omega
  | k + 1, n, h => by
    rw [numTo] at h
    cases hk : numTo s b k with
    | none => rw [hk] at h; cases h
    | some m =>
      rw [hk] at h
      simp only at h
      split at h
      · cases h
      · split at h
        · cases h
        · have := Option.some.inj h; omega
theorem numTo_step {s : ByteArray} {b k n : Nat} (h : numTo s b k = some n) (hk : k < s.size) :
    numTo s b (k + 1) = if b ≤ digC (s[k]).toNat then none else if most < n * b + digC (s[k]).toNat then none else some (n * b + digC (s[k]).toNat) := by
  rw [numTo, h, byteOf_eq s k hk]
theorem numB_dead {s : ByteArray} {b k : Nat} (hk : k < s.size) (h : numTo s b (k + 1) = none) : numB s b = none := by
  unfold numB
  rw [if_neg (by omega)]
  have := numTo_none s b (k + 1) h (s.size - (k + 1))
  rwa [show k + 1 + (s.size - (k + 1)) = s.size by omega] at this
/-- What Number answers. -/
def numRet (o : Option Nat) : Value := .tuple #[.int .i64 ((o.getD 0 : Nat) : Int), .bool o.isSome]

theorem num_ret {o p : Option Nat} (h : o = p) : Ending.returned (numRet o) = .returned (numRet p) := by rw [h]

end Go.Proofs.Ytjmmedpkcedngaa
/- Contracts of the reference's digit, Number and Decimal: a number's decimal digits, and how they are read back. -/
namespace Go.Proofs.Ytjmmedpkcedngaa
open Go.RowKit
set_option linter.unusedVariables false
set_option maxRecDepth 20000

/-- A digit's number as the reference tells it; -1: it is none. -/
def digI (c : Nat) : Int := if digC c < 16 then (digC c : Int) else -1

/-- Texts of lists of bytes, one behind the other. -/
theorem mk_append (l m : List UInt8) : (⟨l.toArray⟩ : ByteArray) ++ ⟨m.toArray⟩ = ⟨(l ++ m).toArray⟩ := by
  apply bytes_ext
  rw [data_append]
theorem dec_length (u : Nat) (h : u ≤ 9223372036854775807) : (Lib.decDigits u).length ≤ 21 := by
  have := Lib.itoa_length_le (u : Int) (by omega) (by omega)
  unfold Lib.itoa at this
  rw [if_neg (by omega)] at this
  simpa using this

set_option maxHeartbeats 1000000 in
theorem refDecimal_nat (u : Nat) : ∀ (w : World), u ≤ 9223372036854775807 →
    Calls Try.prog 22 #[.int .i64 (u : Int)] w fun e w' => e = .returned (.string ⟨(Lib.decDigits u).toArray⟩) ∧ Below w.heap.size w w' := by
  induction u using Nat.strongRecOn with
  | _ u ih =>
    intro w hu
    have hone := one_byte (48 + u % 10) (by omega) w
    have e48 : ((48 + u % 10 : Nat) : Int) = 48 + (u : Int) % 10 := by omega
    rw [e48] at hone
    clear e48
    by_cases h10 : u < 10
    · have e : Lib.decDigits u = [UInt8.ofNat (48 + u % 10)] := by rw [Lib.decDigits, dif_pos h10, Nat.mod_eq_of_lt h10]
      rw [e]
      clear e ih
      generalize UInt8.ofNat (48 + u % 10) = c at hone ⊢
      go_enter Try.func22, Try.ntmps22
      go_wp2_with fail
      go_ret
      exact ⟨rfl, (Below.refl _ _).alloc (Nat.le_refl _) _⟩
    · have e : Lib.decDigits u = Lib.decDigits (u / 10) ++ [UInt8.ofNat (48 + u % 10)] := by rw [Lib.decDigits, dif_neg h10]
      have hlen := dec_length (u / 10) (by omega)
      have e10 : ((u / 10 : Nat) : Int) = (u : Int) / 10 := by omega
      have HI : Hid (∀ w, Calls Try.prog 22 #[.int .i64 ((u : Int) / 10)] w fun e w' => e = .returned (.string ⟨(Lib.decDigits (u / 10)).toArray⟩) ∧ Below w.heap.size w w') := by
        refine Lib.hid fun w => ?_
        have := ih (u / 10) (by omega) w (by omega)
        rw [e10] at this
        exact this
      rw [e, ← mk_append]
      clear e ih e10
      have hsz : (⟨(Lib.decDigits (u / 10)).toArray⟩ : ByteArray).size ≤ 21 := hlen
      generalize (⟨(Lib.decDigits (u / 10)).toArray⟩ : ByteArray) = t at *
      generalize UInt8.ofNat (48 + u % 10) = c at hone ⊢
      go_enter Try.func22, Try.ntmps22
      go_wp2_with fail
      refine (HI.out _).mono ?_
      rintro e w1 ⟨rfl, hb1⟩
      go_wp2_with fail
      go_ret
      exact ⟨rfl, ((Below.refl _ _).alloc (Nat.le_refl _) _).trans (hb1.mono (by simp))⟩

theorem itoa_min : (Lib.itoa (-9223372036854775808)) = [45, 57, 50, 50, 51, 51, 55, 50, 48, 51, 54, 56, 53, 52, 55, 55, 53, 56, 48, 56] := by
  unfold Lib.itoa
  rw [if_pos (by decide)]
  simp [Lib.decDigits]

set_option maxHeartbeats 1000000 in
theorem refDecimal_any (n : Int) (w : World) (h0 : -9223372036854775808 ≤ n) (h1 : n ≤ 9223372036854775807) :
    Calls Try.prog 22 #[.int .i64 n] w fun e w' => e = .returned (.string ⟨(Lib.itoa n).toArray⟩) ∧ Below w.heap.size w w' := by
  by_cases hn : 0 ≤ n
  · obtain ⟨u, rfl⟩ : ∃ u : Nat, n = (u : Int) := ⟨n.toNat, by omega⟩
    have e : Lib.itoa (u : Int) = Lib.decDigits u := by unfold Lib.itoa; rw [if_neg (by omega)]; rfl
    rw [e]
    exact refDecimal_nat u w (by omega)
  · by_cases hm : n < -9223372036854775807
    · obtain rfl : n = -9223372036854775808 := by omega
      rw [itoa_min]
      go_enter Try.func22, Try.ntmps22
      go_wp2_with fail
      go_ret
      exact ⟨rfl, Below.refl _ _⟩
    · obtain ⟨u, hu⟩ : ∃ u : Nat, -n = (u : Int) := ⟨(-n).toNat, by omega⟩
      have e : Lib.itoa n = [45] ++ Lib.decDigits u := by
        unfold Lib.itoa
        rw [if_pos (by omega), show n.natAbs = u by omega]
        rfl
      have hlen := dec_length u (by omega)
      rw [e, ← mk_append]
      have HI : Hid (∀ w, Calls Try.prog 22 #[.int .i64 (-n)] w fun e w' => e = .returned (.string ⟨(Lib.decDigits u).toArray⟩) ∧ Below w.heap.size w w') := by
        refine Lib.hid fun w => ?_
        rw [hu]
        exact refDecimal_nat u w (by omega)
      clear e hu
      have hsz : (⟨(Lib.decDigits u).toArray⟩ : ByteArray).size ≤ 21 := hlen
      generalize (⟨(Lib.decDigits u).toArray⟩ : ByteArray) = t at *
      go_enter Try.func22, Try.ntmps22
      go_wp2_with fail
      refine (HI.out _).mono ?_
      rintro e w1 ⟨rfl, hb1⟩
      go_wp2_with fail
      go_ret
      exact ⟨rfl, hb1⟩

theorem byteOf_left (s X : ByteArray) (k : Nat) (h : k < s.size) : byteOf (s ++ X) k = byteOf s k := by
  unfold byteOf
  rw [data_append]
  simp only [List.getD_eq_getElem?_getD]
  rw [List.getElem?_append_left (by simpa using h)]
theorem numTo_left (s X : ByteArray) (b : Nat) : ∀ k, k ≤ s.size → numTo (s ++ X) b k = numTo s b k
  | 0, _ => rfl
  | k + 1, h => by rw [numTo, numTo, numTo_left s X b k (by omega), byteOf_left s X k (by omega)]
theorem digC_dec (d : Nat) (h : d < 10) : digC (UInt8.ofNat (48 + d)).toNat = d := by
  rw [UInt8.toNat_ofNat', Nat.mod_eq_of_lt (by omega)]
  unfold digC
  rw [if_pos (by omega)]
  omega
/-- The digits of a number, from 0 on, are read as the number, if it is not too great. -/
theorem dec_numTo (u : Nat) : numTo ⟨(Lib.decDigits u).toArray⟩ 10 (Lib.decDigits u).length = if u ≤ most then some u else none := by
  induction u using Nat.strongRecOn with
  | _ u ih =>
    by_cases h10 : u < 10
    · have e : Lib.decDigits u = [UInt8.ofNat (48 + u)] := by rw [Lib.decDigits, dif_pos h10]
      rw [e, if_pos (by unfold most; omega)]
      have hb : byteOf ⟨[UInt8.ofNat (48 + u)].toArray⟩ 0 = (UInt8.ofNat (48 + u)).toNat := rfl
      show numTo _ 10 (0 + 1) = _
      rw [numTo, numTo, hb, digC_dec u h10]
      simp only []
      rw [if_neg (by omega), if_neg (by unfold most; omega)]
      simp
    · have e : Lib.decDigits u = Lib.decDigits (u / 10) ++ [UInt8.ofNat (48 + u % 10)] := by rw [Lib.decDigits, dif_neg h10]
      have hi := ih (u / 10) (by omega)
      rw [e, ← mk_append, List.length_append, List.length_singleton]
      have hs : (⟨(Lib.decDigits (u / 10)).toArray⟩ : ByteArray).size = (Lib.decDigits (u / 10)).length := rfl
      have hb : byteOf ((⟨(Lib.decDigits (u / 10)).toArray⟩ : ByteArray) ++ ⟨[UInt8.ofNat (48 + u % 10)].toArray⟩) (Lib.decDigits (u / 10)).length = (UInt8.ofNat (48 + u % 10)).toNat := by
        unfold byteOf
        rw [data_append, List.getD_eq_getElem?_getD, List.getElem?_append_right (by simp)]
        simp
      rw [numTo, numTo_left _ _ _ _ (by rw [hs]; exact Nat.le_refl _), hi, hb, digC_dec _ (by omega)]
      by_cases hm : u / 10 ≤ most
      · rw [if_pos hm]
        simp only []
        rw [if_neg (by omega), show u / 10 * 10 + u % 10 = u by omega]
        by_cases h2 : most < u
        · rw [if_pos h2, if_neg (by omega)]
        · rw [if_neg h2, if_pos (by omega)]
      · rw [if_neg hm, if_neg (by omega)]
theorem dec_pos (u : Nat) : 0 < (Lib.decDigits u).length := by
  rw [Lib.decDigits]
  split <;> simp
theorem num_bad0 (s : ByteArray) (b j : Nat) (hj : j < s.size) (h : b ≤ digC (byteOf s j)) : numB s b = none := by
  apply numB_dead hj
  rw [numTo]
  cases numTo s b j with
  | none => rfl
  | some n => simp only [if_pos h]
/-- What Number answers of a number's digits. -/
theorem itoa_num (n : Int) : numB ⟨(Lib.itoa n).toArray⟩ 10 = if 0 ≤ n ∧ n ≤ 1099511627776 then some n.toNat else none := by
  by_cases hn : 0 ≤ n
  · obtain ⟨u, rfl⟩ : ∃ u : Nat, n = (u : Int) := ⟨n.toNat, by omega⟩
    have e : Lib.itoa (u : Int) = Lib.decDigits u := by unfold Lib.itoa; rw [if_neg (by omega)]; rfl
    rw [e]
    unfold numB
    have hs : (⟨(Lib.decDigits u).toArray⟩ : ByteArray).size = (Lib.decDigits u).length := rfl
    have hp := dec_pos u
    rw [hs, if_neg (by omega), dec_numTo]
    by_cases h : u ≤ most
    · rw [if_pos h, if_pos (by unfold most at h; omega)]; simp
    · rw [if_neg h, if_neg (by unfold most at h; omega)]
  · rw [if_neg (by omega)]
    have e : Lib.itoa n = 45 :: Lib.decDigits n.natAbs := by unfold Lib.itoa; rw [if_pos (by omega)]
    rw [e]
    apply num_bad0 _ _ 0
    · show 0 < (45 :: Lib.decDigits n.natAbs).length
      simp
    · show 10 ≤ digC 45
      decide
end Go.Proofs.Ytjmmedpkcedngaa
/- The digits of a number in a base, as the statement TextBases lays them, are read as the number; and the contract of the reference's Around. -/
namespace Go.Proofs.Ytjmmedpkcedngaa
open Go.RowKit
set_option linter.unusedVariables false
set_option maxRecDepth 20000

def hexd (d : Nat) : UInt8 := if d < 10 then UInt8.ofNat (48 + d) else UInt8.ofNat (87 + d)
theorem digC_hexd (d : Nat) (h : d < 16) : digC (hexd d).toNat = d := by
  unfold hexd
  by_cases h1 : d < 10
  · rw [if_pos h1, UInt8.toNat_ofNat', Nat.mod_eq_of_lt (by omega)]
    unfold digC
    rw [if_pos (by omega)]
    omega
  · rw [if_neg h1, UInt8.toNat_ofNat', Nat.mod_eq_of_lt (by omega)]
    unfold digC
    rw [if_neg (by omega), if_pos (by omega)]
    omega
/-- The sixteen digits. -/
def hexs : ByteArray := { data := #[48, 49, 50, 51, 52, 53, 54, 55, 56, 57, 97, 98, 99, 100, 101, 102] }
theorem hexs_at (d : Nat) (h : d < 16) : hexs.extract d (d + 1) = { data := #[hexd d] } := by
  have hd : d = 0 ∨ d = 1 ∨ d = 2 ∨ d = 3 ∨ d = 4 ∨ d = 5 ∨ d = 6 ∨ d = 7 ∨ d = 8 ∨ d = 9 ∨ d = 10 ∨ d = 11 ∨ d = 12 ∨ d = 13 ∨ d = 14 ∨ d = 15 := by omega
  rcases hd with rfl | rfl | rfl | rfl | rfl | rfl | rfl | rfl | rfl | rfl | rfl | rfl | rfl | rfl | rfl | rfl <;> decide
/-- The lowest i digits of n. -/
def dstr (n b : Nat) : Nat → ByteArray
  | 0 => { data := #[] }
  | i + 1 => hexs.extract (n / b ^ i % b) (n / b ^ i % b + 1) ++ dstr n b i
theorem dstr_list (n b : Nat) (hb0 : 0 < b) (hb : b ≤ 16) (i : Nat) : (dstr n b (i + 1)).data.toList = hexd (n / b ^ i % b) :: (dstr n b i).data.toList := by
  have := Nat.mod_lt (n / b ^ i) hb0
  rw [dstr, hexs_at _ (by omega), data_append]
  rfl
theorem dstr_size (n b : Nat) (hb0 : 0 < b) (hb : b ≤ 16) : ∀ i, (dstr n b i).size = i
  | 0 => rfl
  | i + 1 => by
    have h := congrArg List.length (dstr_list n b hb0 hb i)
    have ih := dstr_size n b hb0 hb i
    simp at h
    omega
theorem dstr_byte (n b : Nat) (hb0 : 0 < b) (hb : b ≤ 16) : ∀ i k, k < i → byteOf (dstr n b i) k = (hexd (n / b ^ (i - 1 - k) % b)).toNat
  | 0, k, h => by omega
  | i + 1, 0, h => by
    unfold byteOf
    rw [dstr_list n b hb0 hb i]
    simp
  | i + 1, k + 1, h => by
    have ih := dstr_byte n b hb0 hb i k (by omega)
    unfold byteOf at ih ⊢
    rw [dstr_list n b hb0 hb i, show i + 1 - 1 - (k + 1) = i - 1 - k by omega, ← ih]
    rfl
theorem dstr_numTo (n b : Nat) (hb0 : 2 ≤ b) (hb : b ≤ 16) (hn : n ≤ most) (hlt : n < b ^ 14) : ∀ k, k ≤ 14 → numTo (dstr n b 14) b k = some (n / b ^ (14 - k))
  | 0, _ => by rw [numTo, Nat.sub_zero, Nat.div_eq_of_lt hlt]
  | k + 1, h => by
    rw [numTo, dstr_numTo n b hb0 hb hn hlt k (by omega), dstr_byte n b (by omega) hb 14 k (by omega), show 14 - 1 - k = 13 - k by omega, show 14 - (k + 1) = 13 - k by omega]
    have hm : n / b ^ (13 - k) % b < b := Nat.mod_lt _ (by omega)
    rw [digC_hexd _ (by omega)]
    have e : n / b ^ (14 - k) * b + n / b ^ (13 - k) % b = n / b ^ (13 - k) := by
      rw [show 14 - k = (13 - k) + 1 by omega, Nat.pow_succ, ← Nat.div_div_eq_div_mul, Nat.mul_comm]
      exact Nat.div_add_mod _ _
    have hle : n / b ^ (13 - k) ≤ n := Nat.div_le_self _ _
    simp only [e]
    rw [if_neg (by omega), if_neg (by omega)]
theorem dstr_num (n b : Nat) (hb0 : 2 ≤ b) (hb : b ≤ 16) (hn : n ≤ most) (hlt : n < b ^ 14) : numB (dstr n b 14) b = some n := by
  unfold numB
  rw [dstr_size n b (by omega) hb, if_neg (by omega), dstr_numTo n b hb0 hb hn hlt 14 (Nat.le_refl _)]
  simp
theorem num_bad (s : ByteArray) (b j : Nat) (hj : j < s.size) (h : b ≤ digC (byteOf s j)) : numB s b = none := by
  apply numB_dead hj
  rw [numTo]
  cases numTo s b j with
  | none => rfl
  | some n => simp only [if_pos h]
theorem num_behind (s X : ByteArray) (b : Nat) (hb : b ≤ 16) (hX : X.data.toList = [103]) : numB (s ++ X) b = none := by
  apply num_bad _ _ s.size
  · rw [ByteArray.size_append]
    have : X.data.toList.length = 1 := by rw [hX]; rfl
    simp at this
    omega
  · have e : byteOf (s ++ X) s.size = 103 := by
      unfold byteOf
      rw [data_append, hX, List.getD_eq_getElem?_getD, List.getElem?_append_right (by simp)]
      simp
    rw [e]
    have : digC 103 = 16 := by decide
    omega
theorem num_ahead (s X : ByteArray) (b : Nat) (hb : b ≤ 16) (hX : X.data.toList = [45]) : numB (X ++ s) b = none := by
  apply num_bad _ _ 0
  · rw [ByteArray.size_append]
    have : X.data.toList.length = 1 := by rw [hX]; rfl
    simp at this
    omega
  · have e : byteOf (X ++ s) 0 = 45 := by
      unfold byteOf
      rw [data_append, hX]
      rfl
    rw [e]
    have : digC 45 = 16 := by decide
    omega

theorem numRet_some (n : Nat) : numRet (some n) = .tuple #[.int .i64 (n : Int), .bool true] := rfl
theorem numRet_none : numRet none = .tuple #[.int .i64 0, .bool false] := rfl

/-- A number, from 0 on, modulo q. -/
def aroundN (n : Int) (q : Nat) : Nat := (if n < 0 then -(n + 1) else n).toNat % q
theorem aroundN_lt (n : Int) (q : Nat) (h : 0 < q) : aroundN n q < q := Nat.mod_lt _ h

set_option maxHeartbeats 400000 in
theorem around_any (n : Int) (q : Nat) (w : World) (hn : (Lit.int .i64 n).wf = true) (hq : 0 < q) (hq2 : q ≤ 4611686018427387904) :
    Calls Try.prog 10 #[.int .i64 n, .int .i64 (q : Int)] w fun e w' => e = .returned (.int .i64 ((aroundN n q : Nat) : Int)) ∧ w = w' := by
  have hb := bounds_i64 hn
  by_cases h : n < 0
  · obtain ⟨m, hm⟩ : ∃ m : Nat, -(n + 1) = (m : Int) := ⟨(-(n + 1)).toNat, by omega⟩
    have e : aroundN n q = m % q := by unfold aroundN; rw [if_pos h, hm]; rfl
    rw [e]
    go_enter Try.func10, Try.ntmps10
    go_wp2
    go_ret
    exact ⟨by first | rfl | simp, rfl⟩
  · obtain ⟨m, rfl⟩ : ∃ m : Nat, n = (m : Int) := ⟨n.toNat, by omega⟩
    have e : aroundN m q = m % q := by unfold aroundN; rw [if_neg h]; rfl
    rw [e]
    go_enter Try.func10, Try.ntmps10
    go_wp2
    go_ret
    exact ⟨by first | rfl | simp, rfl⟩
end Go.Proofs.Ytjmmedpkcedngaa
/- Rows of deeds (abatislaw10.Deed) and of addresses that came in, opened. -/
namespace Go.Proofs.Ytjmmedpkcedngaa
open Go.ChangeShapes Go.WideShapes Go.ChangeAt Go.RowKit
set_option linter.unusedVariables false
set_option maxRecDepth 20000

theorem ad_of_trod {H : Type} {enc : TypeId × Value → H} {W : World} {spare : Nat → Bool} {fuel : Nat} {l : List Value} {x : DataW H × List MemPlace} (hl : l.length = 17)
    (hf : DataW.trod enc Try.prog W 0 spare true fuel 55 l = some x) : ∃ d : Ad, l = adL d ∧ d.2.length = 16 := by
  have hs := Try.underlying55
  obtain ⟨y0, y1, n, _, _, h0, h1⟩ := trod_struct2 hs hf
  obtain ⟨f, h2, _, h3⟩ := DataW.trod_int Try.underlying3 h0
  obtain ⟨zs, h4, h5, h6⟩ := ints_of_trod Try.underlying53 Try.underlying5 (by kernel_rfl) (by kernel_rfl) h1
  have hc1 : Try.prog.cellsOf 3 = 1 := by kernel_rfl
  have hc16 : Try.prog.cellsOf 53 = 16 := by kernel_rfl
  refine ⟨(f, zs.map Int.toNat), ?_, by simpa using h5⟩
  unfold adL addrL
  have e1 : l = (l.drop 0).take 1 ++ (l.drop 1).take 16 := by
    have : (l.drop 1).take 16 = l.drop 1 := List.take_of_length_le (by simp; omega)
    rw [this, List.drop_zero, List.take_append_drop]
  rw [e1]
  have e2 : (l.drop 0).take 1 = [Value.int .i64 f] := by rw [← h2, hc1]
  have e3 : (l.drop 1).take 16 = zs.map (Value.int .u8) := by rw [← h4, hc16]
  rw [e2, e3, List.map_map]
  show Value.int .i64 f :: zs.map (Value.int .u8) = Value.int .i64 f :: _
  congr 1
  apply List.map_congr_left
  intro z hz
  have := bounds_u8 (h6 z hz)
  show Value.int .u8 z = Value.int .u8 ((z.toNat : Nat) : Int)
  congr 1
  omega
theorem open_addrs10 {H : Type} {enc : TypeId × Value → H} {W : World} {spare : Nat → Bool} {a : Option Addr} {len cap : Nat} {d : DataW H} {ps : List MemPlace}
    (h : DataW.Trod enc Try.prog W 0 spare true 30 (.slice a len cap) d ps) : ∃ D : List Ad, D.length = len ∧ AdsIn W a cap D := by
  obtain ⟨fuel, hf⟩ := h
  obtain ⟨h1, h2, h3⟩ := open_rows adL 17 (fun d : Ad => d.2.length = 16) Try.underlying30 (by kernel_rfl) (by decide) (fun n cs y hl ht => ad_of_trod hl ht) hf
  rcases h3 with h3 | ⟨g, o, D, e, hl, hq, hr, hg⟩
  · exact ⟨[], h3.symm, ⟨by simp, h2, (fun r h => by cases h), .inl rfl⟩, trivial⟩
  · exact ⟨D, hl, ⟨by omega, h2, fun d hd => (hq d hd).1, .inr ⟨g, o, e, hg, hr⟩⟩, trivial⟩
theorem trod_struct6' {H : Type} {enc : TypeId × Value → H} {W : World} {spare : Nat → Bool} {t : TypeId} {f0 f1 f2 f3 f4 f5 : Field} {fuel : Nat} {cs : List Value} {x : DataW H × List MemPlace} (ht : Try.prog.underlying t = some (.struct #[f0, f1, f2, f3, f4, f5])) (h : DataW.trod enc Try.prog W 0 spare true fuel t cs = some x) :
    ∃ y0 y1 y2 y3 y4 y5 n, DataW.trod enc Try.prog W 0 spare true n f0.type ((cs.drop f0.offset).take (Try.prog.cellsOf f0.type)) = some y0 ∧ DataW.trod enc Try.prog W 0 spare true n f1.type ((cs.drop f1.offset).take (Try.prog.cellsOf f1.type)) = some y1 ∧ DataW.trod enc Try.prog W 0 spare true n f2.type ((cs.drop f2.offset).take (Try.prog.cellsOf f2.type)) = some y2 ∧
      DataW.trod enc Try.prog W 0 spare true n f3.type ((cs.drop f3.offset).take (Try.prog.cellsOf f3.type)) = some y3 ∧ DataW.trod enc Try.prog W 0 spare true n f4.type ((cs.drop f4.offset).take (Try.prog.cellsOf f4.type)) = some y4 ∧ DataW.trod enc Try.prog W 0 spare true n f5.type ((cs.drop f5.offset).take (Try.prog.cellsOf f5.type)) = some y5 := by
  obtain ⟨xs, n, _, rfl, hl, hlen, hf⟩ := DataW.trod_struct ht h
  match xs, hlen with
  | [y0, y1, y2, y3, y4, y5], _ => exact ⟨y0, y1, y2, y3, y4, y5, n, by simpa using hf 0 f0 rfl, by simpa using hf 1 f1 rfl, by simpa using hf 2 f2 rfl, by simpa using hf 3 f3 rfl, by simpa using hf 4 f4 rfl, by simpa using hf 5 f5 rfl⟩
/-- A deed of layer 10. -/
structure Deed10 where
  kind : Int
  type : Int
  ttl : Int
  wait : Int
  name : ByteArray
  a : Option Addr
  n : Nat
  c : Nat
def Deed10.L (d : Deed10) : List Value := [.int .i64 d.kind, .int .i64 d.type, .int .i64 d.ttl, .int .i64 d.wait, .string d.name, .slice d.a d.n d.c]
def Deed10.Ok (W : World) (d : Deed10) : Prop := (Lit.int .i64 d.kind).wf = true ∧ (Lit.int .i64 d.type).wf = true ∧ (Lit.int .i64 d.ttl).wf = true ∧ (Lit.int .i64 d.wait).wf = true ∧ d.name.size ≤ maxLen ∧ ∃ D : List Ad, D.length = d.n ∧ AdsIn W d.a d.c D
theorem deed10_of_trod {H : Type} {enc : TypeId × Value → H} {W : World} {spare : Nat → Bool} {fuel : Nat} {l : List Value} {x : DataW H × List MemPlace} (hl : l.length = 6)
    (hf : DataW.trod enc Try.prog W 0 spare true fuel 32 l = some x) : ∃ d : Deed10, l = d.L ∧ d.Ok W := by
  have hs := Try.underlying32
  obtain ⟨y0, y1, y2, y3, y4, y5, n, h0, h1, h2, h3, h4, h5⟩ := trod_struct6' hs hf
  have hci : Try.prog.cellsOf 3 = 1 := by kernel_rfl
  have hcs : Try.prog.cellsOf 9 = 1 := by kernel_rfl
  have hca : Try.prog.cellsOf 30 = 1 := by kernel_rfl
  simp only [hci, hcs, hca] at h0 h1 h2 h3 h4 h5
  obtain ⟨kd, e0, _, s0⟩ := DataW.trod_int Try.underlying3 h0
  obtain ⟨ty, e1, _, s1⟩ := DataW.trod_int Try.underlying3 h1
  obtain ⟨ttl, e2, _, s2⟩ := DataW.trod_int Try.underlying3 h2
  obtain ⟨wt, e3, _, s3⟩ := DataW.trod_int Try.underlying3 h3
  obtain ⟨nm, e4, _, s4⟩ := DataW.trod_string Try.underlying9 h4
  match l, hl with
  | [v0, v1, v2, v3, v4, v5], _ =>
    simp at e0 e1 e2 e3 e4 h5
    have hsl : ∃ a n c, v5 = .slice a n c := by
      rcases Deep.open_slice Try.underlying30 h5 with ⟨h0, _⟩ | ⟨a', len, cap, _, _, _, _, h0, _⟩
      · exact ⟨_, _, _, by simpa using h0⟩
      · exact ⟨_, _, _, by simpa using h0⟩
    obtain ⟨a, n', c, rfl⟩ := hsl
    obtain ⟨D, hD, hA⟩ := open_addrs10 (d := y5.1) (ps := y5.2) ⟨_, h5⟩
    exact ⟨⟨kd, ty, ttl, wt, nm, a, n', c⟩, by rw [e0, e1, e2, e3, e4]; rfl, s0, s1, s2, s3, by simpa using s4, D, hD, hA⟩
/-- A row of deeds, as a walk reads it. -/
def DeedsAt10 (W : World) (a : Option Addr) (len cap : Nat) (D : List Deed10) : Prop := len ≤ cap ∧ cap ≤ maxLen ∧ D.length = len ∧ (∀ d ∈ D, d.Ok W) ∧ (len = 0 ∨ ∃ g o, a = some ⟨g, o, none⟩ ∧ W.rangeAt g o (D.flatMap Deed10.L) ∧ g < W.heap.size)
theorem open_deeds10 {H : Type} {enc : TypeId × Value → H} {W : World} {spare : Nat → Bool} {a : Option Addr} {len cap : Nat} {d : DataW H} {ps : List MemPlace}
    (h : DataW.Trod enc Try.prog W 0 spare true 22 (.slice a len cap) d ps) : ∃ D, DeedsAt10 W a len cap D := by
  obtain ⟨fuel, hf⟩ := h
  obtain ⟨h1, h2, h3⟩ := open_rows Deed10.L 6 (Deed10.Ok W) Try.underlying22 (by kernel_rfl) (by decide) (fun n cs y hl ht => deed10_of_trod hl ht) hf
  rcases h3 with h3 | ⟨g, o, D, e, hl, hq, hr, hg⟩
  · exact ⟨[], h1, h2, h3.symm, (fun d hd => absurd hd (by simp)), .inl h3⟩
  · exact ⟨D, h1, h2, hl, fun d hd => (hq d hd).1, .inr ⟨g, o, e, hr, hg⟩⟩
end Go.Proofs.Ytjmmedpkcedngaa
/- The reference's Put of layer 10 at a ttl below 1; a row of one address; address variables. -/
namespace Go.Proofs.Ytjmmedpkcedngaa
open Go.RowKit
set_option linter.unusedVariables false
set_option maxRecDepth 20000

theorem build_ce0 {ops : Array Oper} {rest : List Oper} {op : Oper} {a : Act} {w : World} {Q : Exit → Act → World → Prop} (hg : op.guard = none) (ho : op.op = .build 41 #[])
    (h : wpList Try.prog ops Q rest (a.put op.dst (ceV noCe)) w) : wpList Try.prog ops Q (op :: rest) a w := by
  have e0 : Try.prog.built 41 [] = some (ceL noCe).toArray := rfl
  have e : Try.prog.built 41 ((#[] : Array (Nat × Operand)).map fun (i, x) => (i, a.eval x)).toList = some (ceL noCe).toArray := by simpa using e0
  refine wpList_build hg 41 _ ho (by rw [e]; rfl) ?_
  rw [e]
  exact h
theorem refPutNo_any (room : Int) (v : Value) (es : List Ce) (s : ByteArray) (t ttl now : Int) (a : Option Addr) (n c : Nat) (w : World) (base : Nat) (hE : RowC w base v es) (httl : ttl < 1) :
    Calls Try.prog 23 #[ccV room v, .string s, .int .i64 t, .slice a n c, .int .i64 ttl, .int .i64 now] w fun e w' => e = .returned (.tuple #[ccV room v, ceV noCe, .bool false]) ∧ Below w.heap.size w w' := by
  obtain ⟨ad0, c0, rfl⟩ := hE.slice
  obtain ⟨n0, hn0⟩ : ∃ n0, es.length = n0 := ⟨_, rfl⟩
  rw [hn0]
  clear hE hn0
  obtain ⟨P6, hP6⟩ : ∃ P6, w.heap.size = P6 := ⟨_, rfl⟩
  obtain ⟨W0, hW0⟩ : ∃ W0, ((w.alloc (.cells #[.int .i64 room, .slice ad0 n0 c0] 27)).alloc (.cells #[.int .i64 0, .slice none 0 0] 27)).alloc (.cells #[.string ⟨#[]⟩, .int .i64 0, .slice none 0 0, .int .i64 0] 41) = W0 := ⟨_, rfl⟩
  have hb1 : Below w.heap.size w (w.alloc (.cells #[.int .i64 room, .slice ad0 n0 c0] 27)) := (Below.refl _ _).alloc (Nat.le_refl _) _
  have HB0 : Hid (Below w.heap.size w W0) := Lib.hid (by rw [← hW0]; exact (hb1.alloc (by simp) _).alloc (by simp; omega) _)
  have HC0 : Hid (CellsAt W0 P6 [.int .i64 room, .slice ad0 n0 c0]) := Lib.hid (by
    rw [← hW0, ← hP6]
    exact (CellsAt.new w 27 [.int .i64 room, .slice ad0 n0 c0]).below (((Below.refl _ _).alloc (Nat.le_refl _) _).alloc (by simp) _))
  have HY0 : Hid (CellsAt W0 (P6 + 1) zCc) := Lib.hid (by
    rw [← hW0, ← hP6]
    have := (CellsAt.new (w.alloc (.cells #[.int .i64 room, .slice ad0 n0 c0] 27)) 27 zCc).below ((Below.refl _ _).alloc (Nat.le_refl _) (.cells #[.string ⟨#[]⟩, .int .i64 0, .slice none 0 0, .int .i64 0] 41))
    simpa using this)
  have HZ0 : Hid (CellsAt W0 (P6 + 2) zCe) := Lib.hid (by
    rw [← hW0, ← hP6]
    have := CellsAt.new ((w.alloc (.cells #[.int .i64 room, .slice ad0 n0 c0] 27)).alloc (.cells #[.int .i64 0, .slice none 0 0] 27)) 41 zCe
    simpa using this)
  have hd : decide (ttl < 1) = true := decide_eq_true httl
  clear hb1
  rw [hP6] at HB0 ⊢
  go_enter Try.func23, Try.ntmps23
  go_upto_region 1 with fail
  first | rw [hW0] | skip
  clear hW0
  go_wp2_with (first | refine load_cc HC0 rfl _ rfl rfl rfl ?_ | refine build_ce0 rfl rfl ?_ | (refine store_cc HY0 rfl _ _ rfl rfl rfl rfl rfl rfl (fun V HV HVC => ?_); have HZV : Hid (CellsAt V (P6 + 2) zCe) := Lib.hid (by rw [HV.out]; exact HZ0.out.apart (by omega) _)) | (refine store_ce HZV rfl _ _ rfl rfl rfl (vs := ceL noCe) rfl rfl rfl (fun U HU HUC => ?_)))
  have HCU : Hid (CellsAt U (P6 + 1) [.int .i64 room, .slice ad0 n0 c0]) := Lib.hid (by rw [HU.out]; exact HVC.out.apart (by omega) _)
  refine bodyPost_ret (results_put Try.results23 rfl rfl HCU.out rfl HUC.out rfl) rfl ⟨?_, ?_⟩
  · rfl
  · rw [HU.out]
    refine below_cells (by omega) _ _ _ ?_
    rw [HV.out]
    exact below_cells (by omega) _ _ _ HB0.out
/-- A row of one address. -/
theorem fillA16 (f : Int) (b0 b1 b2 b3 b4 b5 b6 b7 b8 b9 b10 b11 b12 b13 b14 b15 : Nat) : Instr.fill (fun i => some (i * 17, 17)) ((Array.range (1 * 17)).map fun j => zAd[j % zAd.size]!) [(0, addrV f [b0, b1, b2, b3, b4, b5, b6, b7, b8, b9, b10, b11, b12, b13, b14, b15])] = some (adL (f, [b0, b1, b2, b3, b4, b5, b6, b7, b8, b9, b10, b11, b12, b13, b14, b15])).toArray := by kernel_rfl
theorem fillA1 (r : Ad) (h : r.2.length = 16) : Instr.fill (fun i => some (i * 17, 17)) ((Array.range (1 * 17)).map fun j => zAd[j % zAd.size]!) [(0, addrV r.1 r.2)] = some (adL r).toArray := by
  obtain ⟨f, bs⟩ := r
  match bs, h with
  | [b0, b1, b2, b3, b4, b5, b6, b7, b8, b9, b10, b11, b12, b13, b14, b15], _ => exact fillA16 f b0 b1 b2 b3 b4 b5 b6 b7 b8 b9 b10 b11 b12 b13 b14 b15
theorem run_buildA1 (r : Ad) (h16 : r.2.length = 16) (w : World) : (Instr.buildSlice 30 1 #[(0, addrV r.1 r.2)]).run Try.prog w = .ok (.slice (some ⟨w.heap.size, 0, none⟩) 1 1) (w.alloc (.cells (adL r).toArray 55)) := by
  obtain ⟨i0, hi0, hz0, hz1, hz2⟩ := info_parts infoA
  have hf := fillA1 r h16
  obtain ⟨Z, hZ⟩ : ∃ Z : Array Value, zAd = Z := ⟨_, rfl⟩
  rw [hZ] at hf hz0
  have hsz : (sizeOf 55).run Try.prog w = .ok 17 w := by simp [sizeOf, typeInfo, hi0, hz1]
  have hzv : (zeroValue 55).run Try.prog w = .ok (.agg Z) w := by simp [zeroValue, typeInfo, hi0, hz0]
  have hnr : ∀ cs : Array Value, (newRow 55 cs).run Try.prog w = .ok ⟨w.heap.size, 0, none⟩ (w.alloc (.cells cs 55)) := fun cs => by simp [newRow]
  have hu : (underlying 30).run Try.prog w = .ok _ w := run_underlying Try.underlying30 w
  have hfc : Instr.fill (fun i => some (i * 17, 17)) ((Array.range (1 * 17)).map fun j => (Value.agg Z).cells[j % (Value.agg Z).cells.size]!) (#[(0, addrV r.1 r.2)] : Array (Nat × Value)).toList = some (adL r).toArray := hf
  unfold Instr.buildSlice
  simp only [Sem.run_bind, hu, Result.andThen_ok, hsz, if_neg (show ¬ (1 * 17 > 2 ^ 24) by decide), Sem.run_pure, if_neg (show ¬ (1 * 17 = 0) by decide), hzv, hfc, hnr]
theorem ads_one (r : Ad) (h16 : r.2.length = 16) (w : World) : AdsIn (w.alloc (.cells (adL r).toArray 55)) (some ⟨w.heap.size, 0, none⟩) 1 [r] := by
  refine ⟨⟨Nat.le_refl _, by unfold maxLen; omega, (fun x hx => by simp at hx; subst hx; exact h16), .inr ⟨w.heap.size, 0, rfl, by simp, ?_⟩⟩, trivial⟩
  have := (CellsAt.new w 55 (adL r)).range
  simpa using this
theorem build_adS {ops : Array Oper} {rest : List Oper} {op : Oper} {a : Act} {w : World} {Q : Exit → Act → World → Prop} {r : Ad} (h16 : r.2.length = 16) (hg : op.guard = none) (x : Operand) (ho : op.op = .buildSlice 30 1 #[(0, x)])
    (hx : a.eval x = addrV r.1 r.2) (h : ∀ W ad, Hid (AdsIn W (some ad) 1 [r]) → Hid (Below w.heap.size w W) → wpList Try.prog ops Q rest (a.put op.dst (.slice (some ad) 1 1)) W) : wpList Try.prog ops Q (op :: rest) a w := by
  refine wpList_plain hg fun K hK => ?_
  unfold Oper.wp execOp
  simp only [ho, List.map_toArray, List.map_cons, List.map_nil, hx, Sem.run_bind, run_buildA1 r h16 w, Result.andThen_ok]
  exact hK _ _ (h _ _ (Lib.hid (ads_one r h16 w)) (Lib.hid ((Below.refl _ _).alloc (Nat.le_refl _) _)))
/-- An address that lies somewhere. -/
theorem load_ad {ops : Array Oper} {rest : List Oper} {op : Oper} {a : Act} {w : World} {Q : Exit → Act → World → Prop} {G o : Nat} {r : Ad} (h16 : Hid (r.2.length = 16)) (hA : Hid (w.rangeAt G o (adL r))) (x : Operand) (hw : Region.wanted op (yielded ops a.tmps) = true) (ho : op.op = .load 55 x)
    (hx : a.eval x = .pointer (some ⟨G, o, none⟩)) (h : wpList Try.prog ops Q rest (a.put op.dst (addrV r.1 r.2)) w) : wpList Try.prog ops Q (op :: rest) a w :=
  wpList_load_row hw 55 x ho G o hx (addrL r.1 r.2) _ hA.out Try.underlying55 rfl (by rw [addr_size, addrL_len r.1 r.2 h16.out]) h
/-- Where a row of one's own may be written. -/
theorem RowA.there {w : World} {B g c : Nat} {D : List Ad} (h : RowA w B (.slice (some ⟨g, 0, none⟩) D.length c) D) : w.there g 0 (D.length * 17) := by
  obtain ⟨⟨h1, h2⟩, _⟩ := h
  rcases h2 with ⟨h2, _⟩ | ⟨g', cap, cur, hv, hg, hh, h3, h4, h5, h6⟩
  · cases h2
  · cases hv
    intro j hj
    have : j < cur.size := by omega
    refine ⟨?_, ?_⟩
    · simp [World.cell?, hh, this]
    · simp [World.frozen?, hh]
theorem store_adT {ops : Array Oper} {rest : List Oper} {op : Oper} {a : Act} {w : World} {Q : Exit → Act → World → Prop} {g o N : Nat} {r : Ad} (hE : Hid (w.there g 0 N)) (hk : Hid (o + 17 ≤ N)) (h16 : Hid (r.2.length = 16)) (x y : Operand) (hgd : op.guard = none) (ho : op.op = .store 55 x y)
    (hx : a.eval x = .pointer (some ⟨g, o, none⟩)) (hy : a.eval y = addrV r.1 r.2) (h : ∀ W, Hid (W = w.setCells g o (adL r)) → Hid (W.there g 0 N) → wpList Try.prog ops Q rest (a.put op.dst undef) W) : wpList Try.prog ops Q (op :: rest) a w :=
  wpList_store_mid hgd 55 x y ho g o (addrL r.1 r.2).toArray hx hy (by
    rw [List.size_toArray, addrL_len r.1 r.2 h16.out]
    intro j hj
    have := hE.out (o + j) (by have := hk.out; omega)
    simpa using this) (by rw [addr_size, List.size_toArray, addrL_len r.1 r.2 h16.out]) (addrL_one r.1 r.2) (h _ (Lib.hid rfl) (Lib.hid (World.there_setCells hE.out _ _ _)))
end Go.Proofs.Ytjmmedpkcedngaa
/- The cache's row and the reference's, side by side: Put, Sweep and Get look at names, types and ticks only. -/
namespace Go.Proofs.Ytjmmedpkcedngaa
open Go.RowKit Go.Maps
set_option linter.unusedVariables false
set_option maxRecDepth 20000

abbrev Cp := Ce × Ce
def Tw (p : Cp) : Prop := p.1.s = p.2.s ∧ p.1.t = p.2.t ∧ p.1.u = p.2.u
def lE (ps : List Cp) : List Ce := ps.map Prod.fst
def lF (ps : List Cp) : List Ce := ps.map Prod.snd
theorem lE_len (ps : List Cp) : (lE ps).length = ps.length := List.length_map _
theorem lF_len (ps : List Cp) : (lF ps).length = ps.length := List.length_map _
theorem lE_at (ps : List Cp) (k : Nat) : (lE ps)[k]? = ps[k]?.map Prod.fst := List.getElem?_map ..
theorem lF_at (ps : List Cp) (k : Nat) : (lF ps)[k]? = ps[k]?.map Prod.snd := List.getElem?_map ..
theorem key_tw {p : Cp} (h : Tw p) : keyC p.1 = keyC p.2 := Prod.ext h.1 h.2.1
theorem find_tw (x : ByteArray) (t : Int) : ∀ (ps : List Cp), (∀ p ∈ ps, Tw p) → findC (lE ps) x t = findC (lF ps) x t
  | [], _ => rfl
  | p :: ps, h => by
    have hp := h p (by simp)
    show (if p.1.s = x ∧ p.1.t = t then some 0 else (findC (lE ps) x t).map (· + 1)) = (if p.2.s = x ∧ p.2.t = t then some 0 else (findC (lF ps) x t).map (· + 1))
    rw [hp.1, hp.2.1, find_tw x t ps (fun q hq => h q (by simp [hq]))]
theorem uAt_tw {ps : List Cp} (h : ∀ p ∈ ps, Tw p) (k : Nat) : uAt (lE ps) k = uAt (lF ps) k := by
  unfold uAt
  rw [lE_at, lF_at]
  cases e : ps[k]? with
  | none => rfl
  | some p => exact (h p (List.mem_of_getElem? e)).2.2
theorem best_tw {ps : List Cp} (h : ∀ p ∈ ps, Tw p) : ∀ n, bestC (lE ps) n = bestC (lF ps) n
  | 0 => rfl
  | k + 1 => by
    unfold bestC
    rw [best_tw h k, uAt_tw h, uAt_tw h]
theorem place_tw (x : ByteArray × Int) {ps : List Cp} (h : ∀ p ∈ ps, Tw p) : ∀ n, placeC x (lE ps) n = placeC x (lF ps) n
  | 0 => rfl
  | k + 1 => by
    unfold placeC
    rw [lE_at, lF_at, place_tw x h k]
    cases e : ps[k]? with
    | none => rfl
    | some p =>
      show (if ltK x (keyC p.1) = true then _ else _) = (if ltK x (keyC p.2) = true then _ else _)
      rw [key_tw (h p (List.mem_of_getElem? e))]
def insP (n : Nat) (q : Cp) (ps : List Cp) : List Cp := ps.take n ++ q :: ps.drop n
theorem ins_tw {ps : List Cp} (h : ∀ p ∈ ps, Tw p) {q : Cp} (hq : Tw q) : ∃ n, insC q.1 (lE ps) = lE (insP n q ps) ∧ insC q.2 (lF ps) = lF (insP n q ps) := by
  refine ⟨placeC (keyC q.1) (lE ps) ps.length, ?_, ?_⟩
  · unfold insC lE insP
    rw [show (List.map Prod.fst ps).length = ps.length from List.length_map _]
    simp
  · rw [place_tw _ h, key_tw hq]
    unfold insC lF insP
    rw [show (List.map Prod.snd ps).length = ps.length from List.length_map _]
    simp
theorem insP_mem {n : Nat} {q : Cp} {ps : List Cp} {p : Cp} (h : p ∈ insP n q ps) : p = q ∨ p ∈ ps := by
  unfold insP at h
  rcases List.mem_append.1 h with h | h
  · exact .inr (List.mem_of_mem_take h)
  · rcases List.mem_cons.1 h with h | h
    · exact .inl h
    · exact .inr (List.mem_of_mem_drop h)
def cutP (ps : List Cp) (i : Nat) : List Cp := ps.take i ++ ps.drop (i + 1)
theorem cutP_E (ps : List Cp) (i : Nat) : cutC (lE ps) i = lE (cutP ps i) := by unfold cutC lE cutP; simp
theorem cutP_F (ps : List Cp) (i : Nat) : cutC (lF ps) i = lF (cutP ps i) := by unfold cutC lF cutP; simp
theorem cutP_mem {ps : List Cp} {i : Nat} {p : Cp} (h : p ∈ cutP ps i) : p ∈ ps := by
  unfold cutP at h
  rcases List.mem_append.1 h with h | h
  · exact List.mem_of_mem_take h
  · exact List.mem_of_mem_drop h
def sweepP (ps : List Cp) (now : Int) : List Cp := ps.filter (fun p => decide (now < p.1.u))
theorem sweepP_E (ps : List Cp) (now : Int) : sweepC (lE ps) now = lE (sweepP ps now) := by
  unfold sweepC lE sweepP
  rw [List.filter_map]
  rfl
theorem sweepP_F {ps : List Cp} (h : ∀ p ∈ ps, Tw p) (now : Int) : sweepC (lF ps) now = lF (sweepP ps now) := by
  unfold sweepC lF sweepP
  rw [List.filter_map]
  congr 1
  refine List.filter_congr (fun p hp => ?_)
  show decide (now < p.2.u) = _
  rw [(h p hp).2.2]
theorem sweepP_mem {ps : List Cp} {now : Int} {p : Cp} (h : p ∈ sweepP ps now) : p ∈ ps := (List.mem_filter.1 h).1
/-- Put, of both. -/
theorem put_tw (room : Int) {ps : List Cp} (h : ∀ p ∈ ps, Tw p) {q : Cp} (hq : Tw q) (now : Int) : ∃ (rs : List Cp) (g : Option Cp), putC room (lE ps) q.1 now = (lE rs, g.map Prod.fst) ∧ putC room (lF ps) q.2 now = (lF rs, g.map Prod.snd) ∧ (∀ p ∈ rs, p = q ∨ p ∈ ps) ∧ (∀ p, g = some p → p ∈ ps) := by
  have hf : findC (lF ps) q.2.s q.2.t = findC (lE ps) q.1.s q.1.t := by rw [find_tw _ _ ps h, hq.1, hq.2.1]
  unfold putC
  rw [hf]
  cases findC (lE ps) q.1.s q.1.t with
  | some i =>
    simp only
    rw [cutP_E, cutP_F]
    obtain ⟨n, e1, e2⟩ := ins_tw (fun p hp => h p (cutP_mem hp)) hq (ps := cutP ps i)
    rw [e1, e2]
    refine ⟨_, none, rfl, rfl, fun p hp => ?_, fun p hp => by cases hp⟩
    rcases insP_mem hp with hp | hp
    · exact .inl hp
    · exact .inr (cutP_mem hp)
  | none =>
    simp only
    rw [lE_len, lF_len]
    by_cases hr : (ps.length : Int) = room
    · rw [if_pos hr, if_pos hr, sweepP_E, sweepP_F h, lE_len, lF_len]
      have h2 : ∀ p ∈ sweepP ps now, Tw p := fun p hp => h p (sweepP_mem hp)
      by_cases hs : ((sweepP ps now).length : Int) = room
      · rw [if_pos hs, if_pos hs, ← best_tw h2, cutP_E, cutP_F, lE_at, lF_at]
        obtain ⟨n, e1, e2⟩ := ins_tw (fun p hp => h2 p (cutP_mem hp)) hq (ps := cutP (sweepP ps now) (bestC (lE (sweepP ps now)) (sweepP ps now).length))
        rw [e1, e2]
        refine ⟨_, _, rfl, rfl, fun p hp => ?_, fun p hp => sweepP_mem (List.mem_of_getElem? hp)⟩
        rcases insP_mem hp with hp | hp
        · exact .inl hp
        · exact .inr (sweepP_mem (cutP_mem hp))
      · rw [if_neg hs, if_neg hs]
        obtain ⟨n, e1, e2⟩ := ins_tw h2 hq
        rw [e1, e2]
        refine ⟨_, none, rfl, rfl, fun p hp => ?_, fun p hp => by cases hp⟩
        rcases insP_mem hp with hp | hp
        · exact .inl hp
        · exact .inr (sweepP_mem hp)
    · rw [if_neg hr, if_neg hr]
      obtain ⟨n, e1, e2⟩ := ins_tw h hq
      rw [e1, e2]
      exact ⟨_, none, rfl, rfl, fun p hp => insP_mem hp, fun p hp => by cases hp⟩
/-- What a name and a type have, of both. -/
theorem get_tw {ps : List Cp} (h : ∀ p ∈ ps, Tw p) (x : ByteArray) (t : Int) : (findC (lE ps) x t = none ∧ findC (lF ps) x t = none) ∨ ∃ p i, p ∈ ps ∧ findC (lF ps) x t = some i ∧ (lF ps)[i]? = some p.2 ∧ getE (lE ps) x t = some p.1 := by
  have hf := find_tw x t ps h
  cases e : findC (lE ps) x t with
  | none => exact .inl ⟨rfl, by rw [← hf, e]⟩
  | some i =>
    obtain ⟨hi, _⟩ := findC_lt _ _ _ _ e
    rw [lE_len] at hi
    refine .inr ⟨ps[i], i, List.getElem_mem hi, by rw [← hf, e], ?_, ?_⟩
    · rw [lF_at, List.getElem?_eq_getElem hi]; rfl
    · unfold getE
      rw [e]
      show (lE ps)[i]? = _
      rw [lE_at, List.getElem?_eq_getElem hi]; rfl
/-- Two entries of one name. -/
theorem getE_mem {es : List Ce} (ha : KeysApart es) {e : Ce} (he : e ∈ es) {x : ByteArray} {t : Int} (hk : keyC e = (x, t)) : getE es x t = some e := by
  obtain ⟨j, hj, rfl⟩ := List.getElem_of_mem he
  have h1 : es[j].s = x := congrArg Prod.fst hk
  have h2 : es[j].t = t := congrArg Prod.snd hk
  have := getE_at ha j hj
  rwa [h1, h2] at this
theorem put_same (room : Int) (x : ByteArray) (t : Int) (a a2 : Option Addr) (n n2 c c2 : Nat) (u u2 now : Int) : putC room [⟨x, t, a, n, c, u⟩] ⟨x, t, a2, n2, c2, u2⟩ now = ([⟨x, t, a2, n2, c2, u2⟩], none) := by
  unfold putC
  have : findC [⟨x, t, a, n, c, u⟩] x t = some 0 := by simp [findC]
  rw [this]
  rfl
theorem put_other (room : Int) (hr : 2 ≤ room) (x : ByteArray) (t t2 : Int) (ht : t ≠ t2) (a a2 : Option Addr) (n n2 c c2 : Nat) (u u2 now : Int) : (putC room [⟨x, t, a, n, c, u⟩] ⟨x, t2, a2, n2, c2, u2⟩ now).1.Perm [⟨x, t2, a2, n2, c2, u2⟩, ⟨x, t, a, n, c, u⟩] := by
  unfold putC
  have : findC [⟨x, t, a, n, c, u⟩] x t2 = none := by simp [findC, ht]
  rw [this]
  simp only
  rw [if_neg (by show ¬ ((1 : Int) = room); omega)]
  exact insC_perm _ _
end Go.Proofs.Ytjmmedpkcedngaa
/- The cache's Put and the reference's, side by side; who is let go of a full cache. -/
namespace Go.Proofs.Ytjmmedpkcedngaa
open Go.RowKit Go.Maps
set_option linter.unusedVariables false
set_option maxRecDepth 20000

theorem sorted_tw {ps : List Cp} (h : ∀ p ∈ ps, Tw p) (hs : SortedC (lE ps)) : SortedC (lF ps) := by
  unfold SortedC lE lF at *
  rw [List.pairwise_map] at hs ⊢
  refine hs.imp_of_mem (fun ha hb hab => ?_)
  rw [← key_tw (h _ ha), ← key_tw (h _ hb)]
  exact hab
theorem both_put (room : Int) {ps : List Cp} (h : ∀ p ∈ ps, Tw p) (own1 own2 : Ce) (hq : Tw (own1, own2)) (now : Int) : ∃ rs : List Cp, (putC room (lE ps) own1 now).1 = lE rs ∧ (putC room (lF ps) own2 now).1 = lF rs ∧ (∀ p ∈ rs, p = (own1, own2) ∨ p ∈ ps) ∧ (putC room (lE ps) own1 now).2.isSome = (putC room (lF ps) own2 now).2.isSome ∧ ((putC room (lE ps) own1 now).2.map keyC).getD noKey = keyC ((putC room (lF ps) own2 now).2.getD noCe) := by
  obtain ⟨rs, g, e1, e2, h1, h2⟩ := put_tw room h hq now
  have e1' : putC room (lE ps) own1 now = (lE rs, g.map Prod.fst) := e1
  have e2' : putC room (lF ps) own2 now = (lF rs, g.map Prod.snd) := e2
  refine ⟨rs, by rw [e1'], by rw [e2'], h1, ?_, ?_⟩
  · rw [e1', e2']; cases g <;> rfl
  · rw [e1', e2']
    cases g with
    | none => rfl
    | some p => exact key_tw (h p (h2 p rfl))
/-- Whom a full cache lets go, where none is over. -/
theorem lets_full {room : Int} {fs : List Ce} {own : Ce} (hf : findC fs own.s own.t = none) (hu : ∀ e ∈ fs, 1 ≤ e.u) (h1 : 1 ≤ room) :
    (putC room fs own 0).2.isSome = decide ((fs.length : Int) = room) ∧ ((fs.length : Int) = room → SortedC fs → (∀ e ∈ fs, e.t = 1) → ∀ j (hj : j < fs.length), decide (fs[j].u < ((putC room fs own 0).2.getD noCe).u) = false ∧ (fs[j].u = ((putC room fs own 0).2.getD noCe).u → ltB fs[j].s ((putC room fs own 0).2.getD noCe).s = false)) := by
  have hsw : sweepC fs 0 = fs := by
    unfold sweepC
    refine List.filter_eq_self.2 (fun e he => ?_)
    have := hu e he
    exact decide_eq_true (by omega)
  by_cases hl : (fs.length : Int) = room
  · have hb : bestC fs fs.length < fs.length := by
      cases he : fs.length with
      | zero => rw [he] at hl; omega
      | succ k => have := bestC_lt fs k; omega
    have e : (putC room fs own 0).2 = some fs[bestC fs fs.length] := by
      unfold putC
      rw [hf]
      simp only
      rw [if_pos hl, hsw, if_pos hl]
      exact List.getElem?_eq_getElem hb
    rw [e]
    refine ⟨by rw [decide_eq_true hl]; rfl, fun _ hs ht j hj => ?_⟩
    show decide (fs[j].u < fs[bestC fs fs.length].u) = false ∧ (fs[j].u = fs[bestC fs fs.length].u → ltB fs[j].s fs[bestC fs fs.length].s = false)
    have hle := bestC_least fs fs.length j hj
    rw [uAt_eq hj, uAt_eq hb] at hle
    generalize bestC fs fs.length = m at *
    refine ⟨decide_eq_false (by omega), fun he => ?_⟩
    have hjm : ¬ j < m := fun h => by have := hle.2 h; omega
    by_cases e2 : j = m
    · subst e2; exact ltB_irrefl _
    · have hk := List.pairwise_iff_getElem.1 hs m j hb hj (by omega)
      rw [ltK_iff] at hk
      rcases hk with hk | ⟨_, hk⟩
      · cases h3 : ltB fs[j].s fs[m].s with
        | false => rfl
        | true =>
          have hk2 : ltB fs[m].s fs[j].s = true := hk
          have := ltB_trans h3 hk2
          rw [ltB_irrefl] at this
          cases this
      · have a1 := ht fs[m] (List.getElem_mem hb)
        have a2 := ht fs[j] (List.getElem_mem hj)
        have : fs[m].t < fs[j].t := hk
        omega
  · have e : (putC room fs own 0).2 = none := by
      unfold putC
      rw [hf]
      simp only
      rw [if_neg hl]
    rw [e]
    exact ⟨by rw [decide_eq_false hl]; rfl, fun h => absurd h hl⟩
/-- The row of the names 0, 1 .. -/
def LS (k : Nat) (ps : List Cp) : Prop := ∀ p ∈ ps, Tw p ∧ p.2.t = 1 ∧ 1 ≤ p.2.u ∧ ∃ j, j < k ∧ p.2.s = dc j
theorem LS.tw {k : Nat} {ps : List Cp} (h : LS k ps) : ∀ p ∈ ps, Tw p := fun p hp => (h p hp).1
theorem mem_lF {ps : List Cp} {e : Ce} (h : e ∈ lF ps) : ∃ p ∈ ps, p.2 = e := by
  obtain ⟨p, hp, e⟩ := List.mem_map.1 h
  exact ⟨p, hp, e⟩
theorem ls_no {k : Nat} {ps : List Cp} (h : LS k ps) (hk : k < 70) : findC (lF ps) (dc k) 1 = none := by
  refine findC_none _ _ _ (fun j hj he => ?_)
  obtain ⟨p, hp, e⟩ := mem_lF (List.getElem_mem hj)
  obtain ⟨_, _, _, i, hi, hs⟩ := h p hp
  rw [e, he.1] at hs
  have := dc_inj k hk i (by omega) hs
  omega
theorem ls_next {k : Nat} {ps rs : List Cp} (h : LS k ps) {q : Cp} (hq : Tw q) (h1 : q.2.t = 1) (h2 : 1 ≤ q.2.u) (h3 : q.2.s = dc k) (hr : ∀ p ∈ rs, p = q ∨ p ∈ ps) : LS (k + 1) rs := fun p hp => by
  rcases hr p hp with rfl | hp
  · exact ⟨hq, h1, h2, k, by omega, h3⟩
  · obtain ⟨a, b, c, j, hj, hs⟩ := h p hp
    exact ⟨a, b, c, j, by omega, hs⟩
/-- No row of the reference's lies where the cache's map or a struct lies. -/
theorem RowC.notMap {w : World} {base b : Nat} {v : Value} {es ds : List Ce} (h : RowC w base v es) (hm : CacMap w b ds) : ∀ g, v.ownBlock = some g → g ≠ b := by
  rintro g hg rfl
  obtain ⟨e0, cl, hb⟩ := hm.block
  rcases h.1.2 with ⟨e, _⟩ | ⟨g2, cap, cur, e, _, hh, _⟩
  · rw [e] at hg; cases hg
  · rw [e] at hg
    injection hg with hg
    rw [show g2 = g from hg, hb] at hh
    cases hh
theorem RowC.notCell {w : World} {base P : Nat} {v : Value} {e : Ce} {es : List Ce} (h : RowC w base v (e :: es)) {x : Value} (hx : w.cell? ⟨P, 0, none⟩ = some x) (hn : ∀ s, x ≠ .string s) : ∀ g, v.ownBlock = some g → g ≠ P := by
  rintro g hg rfl
  rcases h.form with ⟨_, h2⟩ | ⟨g2, cap, e2, _, _, _, _, hr⟩
  · cases h2
  · rw [e2] at hg
    injection hg with hg
    have := hr 0 (.string e.s) rfl
    rw [show g2 = g from hg, hx] at this
    injection this with this
    exact hn _ this
theorem RowC.setsAt {w : World} {B P o : Nat} {v : Value} {us : List Value} {D : List Ce} (h : RowC w B v D) (hf : ∀ g, v.ownBlock = some g → g ≠ P) : RowC (w.setCells P o us) B v D := h.setsF (Ps := [P]) (fun g hg hm => hf g hg (by simpa using hm)) (by simp)
theorem lF_cons {own1 own2 : Ce} {room now : Int} {ps rs : List Cp} (h : (putC room (lF ps) own2 now).1 = lF rs) : ∃ e es, lF rs = e :: es := by
  have hm : own2 ∈ (putC room (lF ps) own2 now).1 := by
    have : ∀ l, own2 ∈ insC own2 l := fun l => (insC_perm own2 l).mem_iff.2 (by simp)
    rw [putC_pre]
    exact this _
  rw [h] at hm
  cases hr : lF rs with
  | nil => rw [hr] at hm; cases hm
  | cons e es => exact ⟨e, es, rfl⟩
end Go.Proofs.Ytjmmedpkcedngaa
/- The cache and the reference's row, side by side in memory; Put, Get, Until and Sweep of both. -/
namespace Go.Proofs.Ytjmmedpkcedngaa
open Go.RowKit Go.Maps
set_option linter.unusedVariables false
set_option maxRecDepth 20000

theorem takeAds10 {w : World} {a : Option Addr} {cap : Nat} {D : List Ad} (h : AdsIn w a cap D) (k : Nat) : AdsIn w a cap (D.take k) := by
  obtain ⟨⟨h1, h2, h3, h4⟩, h5⟩ := h
  refine ⟨⟨by rw [List.length_take]; omega, h2, fun r hr => h3 r (List.mem_of_mem_take hr), ?_⟩, h5⟩
  rcases h4 with h4 | ⟨g, o, e, hg, hr⟩
  · exact .inl (by rw [List.length_take]; omega)
  · refine .inr ⟨g, o, e, hg, fun j u hu => hr j u ?_⟩
    rw [← List.take_append_drop k D, List.flatMap_append]
    have hj : j < ((D.take k).flatMap adL).length := by
      apply Classical.byContradiction
      intro h
      rw [List.getElem?_eq_none (by omega)] at hu
      cases hu
    rw [List.getElem?_append_left hj]
    exact hu
/-- A block of two cells. -/
def Two (w : World) (P : Nat) : Prop := ∃ cur t, w.heap[P]? = some (.cells cur t (0, 0)) ∧ cur.size = 2
theorem Two.lt {w : World} {P : Nat} (h : Two w P) : P < w.heap.size := by
  obtain ⟨cur, t, h, _⟩ := h
  exact (Array.getElem?_eq_some_iff.1 h).1
theorem Two.new (w : World) (t : TypeId) : Two (w.alloc (.cells zCc.toArray t)) w.heap.size := ⟨zCc.toArray, t, by show (w.heap.push _)[w.heap.size]? = _; simp, rfl⟩
theorem Two.below {w w' : World} {P : Nat} (h : Two w P) (hb : Below w.heap.size w w') : Two w' P := by
  obtain ⟨cur, t, e, hc⟩ := h
  exact ⟨cur, t, by rw [hb.block P (Two.lt ⟨cur, t, e, hc⟩)]; exact e, hc⟩
theorem Two.grown {w w' : World} {P b : Nat} (h : Two w P) (hg : w.grownBy w' (some b)) (hne : P ≠ b) : Two w' P := by
  obtain ⟨cur, t, e, hc⟩ := h
  exact ⟨cur, t, by rw [hg.block P (Two.lt ⟨cur, t, e, hc⟩) (fun e => hne (by injection e))]; exact e, hc⟩
theorem Two.sets {w : World} {P : Nat} (h : Two w P) (x y : Value) : Two (w.setCells P 0 [x, y]) P := by
  obtain ⟨cur, t, e, hc⟩ := h
  have e1 := heap_setCell_same w P 0 cur t x e
  have e2 := heap_setCell_same (w.setCell ⟨P, 0, none⟩ x) P 1 (cur.setIfInBounds 0 x) t y e1
  exact ⟨_, t, e2, by simp [hc]⟩
theorem AdsIn.sets2 {w : World} {a : Option Addr} {c P : Nat} {L : List Ad} {vs : List Value} (h : AdsIn w a c L) (h2 : Two w P) : AdsIn (w.setCells P 0 vs) a c L := by
  obtain ⟨⟨h1, hc, h3, h4⟩, h5⟩ := h
  cases L with
  | nil => exact ⟨⟨h1, hc, h3, .inl rfl⟩, trivial⟩
  | cons r L =>
    refine AdsIn.sets ⟨⟨h1, hc, h3, h4⟩, h5⟩ (fun g o e => ?_)
    rintro rfl
    rcases h4 with h4 | ⟨g2, o2, e2, _, hr⟩
    · cases h4
    · rw [e2] at e
      injection e with e
      injection e with e _ _
      subst e
      obtain ⟨cur, t, hh, hsz⟩ := h2
      have h16 := h3 r (by simp)
      have hl : (adL r).length = 17 := addrL_len r.1 r.2 h16
      have := hr 16 ((adL r)[16]'(by omega)) (by
        rw [List.flatMap_cons, List.getElem?_append_left (by omega), List.getElem?_eq_getElem (by omega)])
      simp [World.cell?, hh] at this
      have := (Array.getElem?_eq_some_iff.1 this).1
      omega
theorem RowC.notTwo {w : World} {B P : Nat} {v : Value} {es : List Ce} (h : RowC w B v es) (h2 : Two w P) : ∀ g, v.ownBlock = some g → g ≠ P := by
  rintro g hg rfl
  obtain ⟨cur, t, hh, hsz⟩ := h2
  rcases h.1.2 with ⟨e, _⟩ | ⟨g2, cap, cur2, e, _, hh2, _, _, hs2, _⟩
  · rw [e] at hg; cases hg
  · rw [e] at hg
    injection hg with hg
    rw [show g2 = g from hg, hh] at hh2
    injection hh2 with hh2
    injection hh2 with hh2 _ _
    rw [hh2] at hsz
    omega
/-- An entry of both: the same addresses. -/
def PA (w : World) (p : Cp) : Prop := ∃ L : List Ad, L.length ≤ 3 ∧ p.1.n = L.length ∧ p.2.n = L.length ∧ AdsIn w p.1.a p.1.c L ∧ AdsIn w p.2.a p.2.c L
structure St (w : World) (G b : Nat) (room : Int) (v : Value) (ps : List Cp) : Prop where
  cac : CacAt w G b room (lE ps)
  row : RowC w 0 v (lF ps)
  tw : ∀ p ∈ ps, Tw p
  ad : ∀ p ∈ ps, PA w p
section
variable {w w' : World} {G b : Nat} {room : Int} {v : Value} {ps : List Cp}
theorem St.below (h : St w G b room v ps) (hb : Below w.heap.size w w') : St w' G b room v ps :=
  ⟨h.cac.below hb, h.row.below hb, h.tw, fun p hp => by
    obtain ⟨L, h1, h2, h3, h4, h5⟩ := h.ad p hp
    exact ⟨L, h1, h2, h3, h4.below hb, h5.below hb⟩⟩
theorem St.sets2 (h : St w G b room v ps) {P : Nat} (h2 : Two w P) (hG : G ≠ P) (vs : List Value) : St (w.setCells P 0 vs) G b room v ps := by
  refine ⟨h.cac.setsAt ?_ hG, h.row.setsAt (h.row.notTwo h2), h.tw, fun p hp => ?_⟩
  · rintro rfl
    obtain ⟨cur, t, hh, _⟩ := h2
    obtain ⟨e0, cl, hb⟩ := h.cac.mp.block
    rw [hb] at hh
    cases hh
  · obtain ⟨L, l1, l2, l3, l4, l5⟩ := h.ad p hp
    exact ⟨L, l1, l2, l3, l4.sets2 h2, l5.sets2 h2⟩
theorem St.len (h : St w G b room v ps) : ps.length ≤ 64 := by
  have h1 := h.cac.le
  have h2 := h.cac.r2
  rw [lE_len] at h1
  omega
def outP (room : Int) (ps : List Cp) (own : Ce) (ttl now : Int) : List Ce × Ce × Bool :=
  if ttl < 1 then (lF ps, noCe, false) else ((putC room (lF ps) own now).1, (putC room (lF ps) own now).2.getD noCe, (putC room (lF ps) own now).2.isSome)
theorem refPutX (h : St w G b room v ps) (s : ByteArray) (t ttl now : Int) (a : Option Addr) (n c : Nat) (hs : s.size ≤ 2000000) (hn0 : 0 ≤ now) (hn1 : now ≤ 2199023255552) :
    Calls Try.prog 23 #[ccV room v, .string s, .int .i64 t, .slice a n c, .int .i64 ttl, .int .i64 now] w fun e w' => ∃ ad m c', e = .returned (.tuple #[ccV room (.slice ad m c'), ceV (outP room ps ⟨lowB s, t, a, n, c, now + min ttl 604800⟩ ttl now).2.1, .bool (outP room ps ⟨lowB s, t, a, n, c, now + min ttl 604800⟩ ttl now).2.2]) ∧ RowC w' 0 (.slice ad m c') (outP room ps ⟨lowB s, t, a, n, c, now + min ttl 604800⟩ ttl now).1 ∧ Below w.heap.size w w' := by
  by_cases ht : ttl < 1
  · have e : outP room ps ⟨lowB s, t, a, n, c, now + min ttl 604800⟩ ttl now = (lF ps, noCe, false) := if_pos ht
    rw [e]
    refine (refPutNo_any room v (lF ps) s t ttl now a n c w 0 h.row ht).mono ?_
    rintro e w' ⟨rfl, hb⟩
    have hr := h.row.below hb
    obtain ⟨ad, c', rfl⟩ := hr.slice
    exact ⟨ad, _, c', rfl, hr, hb⟩
  · have e : outP room ps ⟨lowB s, t, a, n, c, now + min ttl 604800⟩ ttl now = _ := if_neg ht
    rw [e]
    have h64 := h.len
    refine (refPutC_any room v (lF ps) s t ttl now a n c w 0 h.row hs (by omega) hn0 hn1 (by rw [lF_len]; omega) h.cac.r1).mono ?_
    rintro e w' ⟨v', rfl, hr, hb⟩
    obtain ⟨ad, c', rfl⟩ := hr.slice
    exact ⟨ad, _, c', rfl, hr, hb⟩
theorem putX (h : St w G b room v ps) (s : ByteArray) (t ttl now : Int) (a : Option Addr) (c : Nat) (L : List Ad) (hA : AdsIn w a c L) (hl : L.length ≤ 3) (hs : s.size ≤ 2000000) (ht : (Lit.int .i64 t).wf = true) (hn0 : 0 ≤ now) (hn1 : now ≤ 2199023255552) :
    Calls Try.prog 17 #[.pointer (some ⟨G, 0, none⟩), .string s, .int .i64 t, .slice a L.length c, .int .i64 ttl, .int .i64 now] w fun e w' => e = .returned (.tuple #[keyV (keyC (outP room ps ⟨lowB s, t, a, L.length, c, now + min ttl 604800⟩ ttl now).2.1), .bool (outP room ps ⟨lowB s, t, a, L.length, c, now + min ttl 604800⟩ ttl now).2.2]) ∧ w.grownBy w' (some b) ∧ ∃ rs, lF rs = (outP room ps ⟨lowB s, t, a, L.length, c, now + min ttl 604800⟩ ttl now).1 ∧ CacAt w' G b room (lE rs) ∧ (∀ p ∈ rs, Tw p) ∧ ∀ p ∈ rs, PA w' p := by
  by_cases htt : ttl < 1
  · have e : outP room ps ⟨lowB s, t, a, L.length, c, now + min ttl 604800⟩ ttl now = (lF ps, noCe, false) := if_pos htt
    rw [e]
    refine (putNo_any G b room (lE ps) s t ttl now a L.length c w h.cac htt).mono ?_
    rintro e w' ⟨rfl, hb⟩
    have h' := h.below hb
    exact ⟨rfl, (grown_of_below hb).but _, ps, rfl, h'.cac, h'.tw, h'.ad⟩
  · have e : outP room ps ⟨lowB s, t, a, L.length, c, now + min ttl 604800⟩ ttl now = _ := if_neg htt
    rw [e]
    refine (put_any G b room (lE ps) s t ttl now a c L w h.cac hs ht (by omega) hn0 hn1 hA (by omega)).mono ?_
    rintro e w' ⟨a', c', rfl, hc, ha, hg⟩
    obtain ⟨rs, e1, e2, hrs, hsm, hky⟩ := both_put room h.tw ⟨lowB s, t, a', L.length, c', now + min ttl 604800⟩ ⟨lowB s, t, a, L.length, c, now + min ttl 604800⟩ ⟨rfl, rfl, rfl⟩ now
    rw [e1] at hc
    refine ⟨by rw [hsm, hky], hg, rs, e2.symm, hc, fun p hp => ?_, fun p hp => ?_⟩
    · rcases hrs p hp with rfl | hp
      · exact ⟨rfl, rfl, rfl⟩
      · exact h.tw p hp
    · rcases hrs p hp with rfl | hp
      · exact ⟨L, hl, rfl, rfl, ha, hA.grown hg h.cac.mp.block⟩
      · obtain ⟨M, l1, l2, l3, l4, l5⟩ := h.ad p hp
        exact ⟨M, l1, l2, l3, l4.grown hg h.cac.mp.block, l5.grown hg h.cac.mp.block⟩
theorem getX (h : St w G b room v ps) (s : ByteArray) (t now : Int) (hs : s.size ≤ 2000000) (ht : (Lit.int .i64 t).wf = true) :
    ∃ (L : List Ad) (hb : Bool) (a2 : Option Addr) (c2 : Nat), L.length ≤ 3 ∧ AdsIn w a2 c2 L ∧ getC (lF ps) (lowB s) t now = .tuple #[.slice a2 L.length c2, .bool hb] ∧ Calls Try.prog 18 #[.pointer (some ⟨G, 0, none⟩), .string s, .int .i64 t, .int .i64 now] w fun e w' => Below w.heap.size w w' ∧ ∃ a1 c1, e = .returned (.tuple #[.slice a1 L.length c1, .bool hb]) ∧ AdsIn w' a1 c1 L := by
  rcases get_tw h.tw (lowB s) t with ⟨h1, h2⟩ | ⟨p, i, hp, h1, h2, h3⟩
  · have hg : getE (lE ps) (lowB s) t = none := by unfold getE; rw [h1]
    refine ⟨[], false, none, 0, by decide, AdsIn.nil w, by unfold getC; rw [h2]; rfl, ?_⟩
    refine (get_any G b room (lE ps) s t now w h.cac hs ht [] (fun e he => by rw [hg] at he; cases he) (by decide)).mono ?_
    rintro e w' ⟨hgot, hb⟩
    rw [hg] at hgot
    rcases hgot with ⟨_, rfl⟩ | ⟨h, _⟩
    · exact ⟨hb, none, 0, rfl, AdsIn.nil w'⟩
    · cases h
  · obtain ⟨L, l1, l2, l3, l4, l5⟩ := h.ad p hp
    have hth : theE (lE ps) (lowB s) t = p.1 := by unfold theE; rw [h3]; rfl
    have hu := (h.tw p hp).2.2
    have hgc : getC (lF ps) (lowB s) t now = if p.2.u ≤ now then .tuple #[.slice none 0 0, .bool false] else .tuple #[.slice p.2.a p.2.n p.2.c, .bool true] := by
      unfold getC
      rw [h1]
      simp only
      rw [h2]
    have HG := get_any G b room (lE ps) s t now w h.cac hs ht L (fun e he => by rw [h3] at he; cases he; exact ⟨l2, l4⟩) (by omega)
    rw [h3, hth] at HG
    by_cases ho : p.2.u ≤ now
    · refine ⟨[], false, none, 0, by decide, AdsIn.nil w, by rw [hgc, if_pos ho]; rfl, HG.mono ?_⟩
      rintro e w' ⟨hgot, hb⟩
      rcases hgot with ⟨_, rfl⟩ | ⟨_, h, _⟩
      · exact ⟨hb, none, 0, rfl, AdsIn.nil w'⟩
      · omega
    · refine ⟨L, true, p.2.a, p.2.c, l1, l5, by rw [hgc, if_neg ho, l3], HG.mono ?_⟩
      rintro e w' ⟨hgot, hb⟩
      rcases hgot with ⟨h | h, _⟩ | ⟨_, _, v1, rfl, hr⟩
      · cases h
      · omega
      · obtain ⟨a1, c1, rfl, hA⟩ := hr.ads
        exact ⟨hb, a1, c1, rfl, hA⟩
theorem untilX (h : St w G b room v ps) (x : ByteArray) (t : Int) : (findI (lF ps) x t = -1 ∧ (theE (lE ps) x t).u = 0 ∧ (getE (lE ps) x t).isSome = false) ∨ ∃ (i : Nat) (hi : i < (lF ps).length), findI (lF ps) x t = (i : Int) ∧ (theE (lE ps) x t).u = (lF ps)[i].u ∧ (getE (lE ps) x t).isSome = true := by
  rcases get_tw h.tw x t with ⟨h1, h2⟩ | ⟨p, i, hp, h1, h2, h3⟩
  · have hg : getE (lE ps) x t = none := by unfold getE; rw [h1]
    exact .inl ⟨by unfold findI; rw [h2], by unfold theE; rw [hg]; rfl, by rw [hg]; rfl⟩
  · obtain ⟨hi, e⟩ := List.getElem?_eq_some_iff.1 h2
    refine .inr ⟨i, hi, by unfold findI; rw [h1], ?_, by rw [h3]; rfl⟩
    unfold theE
    rw [h3, e]
    exact (h.tw p hp).2.2
theorem sweepX (h : St w G b room v ps) (now : Int) : Calls Try.prog 24 #[.pointer (some ⟨G, 0, none⟩), .int .i64 now] w fun e w' => e = .returned (.int .i64 (((lF ps).length - (sweepC (lF ps) now).length : Nat) : Int)) ∧ w.grownBy w' (some b) ∧ ∃ rs, lF rs = sweepC (lF ps) now ∧ CacAt w' G b room (lE rs) ∧ (∀ p ∈ rs, Tw p) ∧ ∀ p ∈ rs, PA w' p := by
  refine (sweep_any G b room (lE ps) now w h.cac).mono ?_
  rintro e w' ⟨rfl, hc, hg⟩
  rw [sweepP_E] at hc
  refine ⟨by rw [sweepP_E, sweepP_F h.tw, lE_len, lE_len, lF_len, lF_len], hg, sweepP ps now, (sweepP_F h.tw now).symm, hc, fun p hp => h.tw p (sweepP_mem hp), fun p hp => ?_⟩
  obtain ⟨M, l1, l2, l3, l4, l5⟩ := h.ad p (sweepP_mem hp)
  exact ⟨M, l1, l2, l3, l4.grown hg h.cac.mp.block, l5.grown hg h.cac.mp.block⟩
end
theorem yields_ccS {ops : Array Oper} {S : World → Prop} {op : Oper} {a : Act} {G : Nat} {vs : List Value} (hS : Hid (∀ w, S w → w.rangeAt G 0 vs)) (hl : vs.length = 2) (hw : Region.wanted op (yielded ops a.tmps) = true) (x : Operand) (ho : op.op = .load 27 x)
    (hx : a.eval x = .pointer (some ⟨G, 0, none⟩)) : YieldsIf Try.prog ops S op (.agg vs.toArray) a :=
  yieldsIf_load_mid hw 27 x ho G 0 hx _ _ (fun w h => hS.out w h) Try.underlying27 rfl (by rw [cc_size, hl])
end Go.Proofs.Ytjmmedpkcedngaa
/- Contract of the law's helper does (layer 10). -/
namespace Go.Proofs.Ytjmmedpkcedngaa
open Go.RowKit Go.Maps
set_option linter.unusedVariables false
set_option maxRecDepth 20000

set_option maxRecDepth 100000 in
set_option maxHeartbeats 8000000 in
theorem does_any (G b : Nat) (room : Int) (v : Value) (ps : List Cp) (kd ty ttl wt now : Int) (nm : ByteArray) (da : Option Addr) (dn dcap : Nat) (D0 : List Ad) (w : World) (h : St w G b room v ps) (hty : (Lit.int .i64 ty).wf = true) (hnm : nm.size ≤ maxLen) (hD : D0.length = dn) (hA : AdsIn w da dcap D0) (hn0 : 0 ≤ now) (hn1 : now ≤ 100000) :
    Calls Try.prog 11 #[.pointer (some ⟨G, 0, none⟩), ccV room v, .agg #[.int .i64 kd, .int .i64 ty, .int .i64 ttl, .int .i64 wt, .string nm, .slice da dn dcap], .int .i64 now] w fun e w' => ∃ ad m c ps', e = .returned (.tuple #[ccV room (.slice ad m c), .bool true]) ∧ St w' G b room (.slice ad m c) ps' ∧ w.grownBy w' (some b) := by
  have HFW := fun W => Lib.hid (few_any nm 6 W hnm (by decide))
  have hfs := few_size nm 6
  obtain ⟨s, hs⟩ : ∃ s, few nm 6 = s := ⟨_, rfl⟩
  rw [hs] at HFW hfs
  have hsz : s.size ≤ 2000000 := by omega
  obtain ⟨vad, vc, rfl⟩ := h.row.slice
  obtain ⟨n0, hn⟩ : ∃ n0, (lF ps).length = n0 := ⟨_, rfl⟩
  have HNN := Lib.hid hn
  rw [hn] at h ⊢
  have HLT := Lib.hid h.cac.lt
  obtain ⟨P5, hP5⟩ : ∃ P5, w.heap.size = P5 := ⟨_, rfl⟩
  obtain ⟨W0, hW0⟩ : ∃ W0, ((w.alloc (.cells #[.int .i64 room, .slice vad n0 vc] 27)).alloc (.cells #[.int .i64 kd, .int .i64 ty, .int .i64 ttl, .int .i64 wt, .string nm, .slice da dn dcap] 32)).alloc (.cells #[.int .i64 0, .slice none 0 0] 27) = W0 := ⟨_, rfl⟩
  have hb1 : Below w.heap.size w (w.alloc (.cells #[.int .i64 room, .slice vad n0 vc] 27)) := (Below.refl _ _).alloc (Nat.le_refl _) _
  have HB0 : Hid (Below w.heap.size w W0) := Lib.hid (by rw [← hW0]; exact (hb1.alloc (by simp) _).alloc (by simp; omega) _)
  have HC5 : Hid (CellsAt W0 P5 [.int .i64 room, .slice vad n0 vc]) := Lib.hid (by
    rw [← hW0, ← hP5]
    exact (CellsAt.new w 27 [.int .i64 room, .slice vad n0 vc]).below (((Below.refl _ _).alloc (Nat.le_refl _) _).alloc (by simp) _))
  have HD6 : Hid (CellsAt W0 (P5 + 1) [.int .i64 kd, .int .i64 ty, .int .i64 ttl, .int .i64 wt, .string nm, .slice da dn dcap]) := Lib.hid (by
    rw [← hW0, ← hP5]
    have := (CellsAt.new (w.alloc (.cells #[.int .i64 room, .slice vad n0 vc] 27)) 32 [.int .i64 kd, .int .i64 ty, .int .i64 ttl, .int .i64 wt, .string nm, .slice da dn dcap]).below ((Below.refl _ _).alloc (Nat.le_refl _) (.cells #[.int .i64 0, .slice none 0 0] 27))
    simpa using this)
  have HZ8 : Hid (CellsAt W0 (P5 + 2) zCc ∧ Two W0 (P5 + 2)) := Lib.hid (by
    rw [← hW0, ← hP5]
    have h1 := CellsAt.new ((w.alloc (.cells #[.int .i64 room, .slice vad n0 vc] 27)).alloc (.cells #[.int .i64 kd, .int .i64 ty, .int .i64 ttl, .int .i64 wt, .string nm, .slice da dn dcap] 32)) 27 zCc
    have h2 := Two.new ((w.alloc (.cells #[.int .i64 room, .slice vad n0 vc] 27)).alloc (.cells #[.int .i64 kd, .int .i64 ty, .int .i64 ttl, .int .i64 wt, .string nm, .slice da dn dcap] 32)) 27
    exact ⟨by simpa using h1, by simpa using h2⟩)
  have HST := Lib.hid (h.below HB0.out)
  have HDA := Lib.hid (hA.below HB0.out)
  have HPN : Hid (G ≠ P5 + 2 ∧ P5 + 2 ≠ b ∧ P5 ≠ b ∧ P5 + 1 ≠ b) := Lib.hid (by have := HLT.out; omega)
  have HW5 : Hid (w.heap.size = P5) := Lib.hid hP5
  have hcm := hA.1.2.1
  have hlc := hA.1.1
  rw [hD] at hlc
  unfold maxLen at hcm
  have HDD := Lib.hid hD
  clear h hA hb1 hfs hs hn HLT
  go_enter Try.func11, Try.ntmps11
  go_upto_region 1 with fail
  try rw [hW0]
  try rw [hP5]
  clear hW0 hP5
  have h64 := HD6.out.cell 4 _ rfl
  have h65 := HD6.out.cell 5 _ rfl
  have h60 := HD6.out.cell 0 _ rfl
  go_wp2_with fail
  refine (HFW _).out.mono ?_
  rintro e w1 ⟨rfl, rfl⟩
  clear HFW
  go_upto_if 33 with fail
  go_cut [11] from 26 (fun s11 wx => ∃ L : List Ad, L.length ≤ 3 ∧ s11 = .slice da L.length dcap ∧ Hid (AdsIn W0 da dcap L) ∧ wx = W0)
  case first =>
    by_cases h3 : 3 < dn
    · have hd : decide ((3 : Int) < (dn : Int)) = true := decide_eq_true (by omega)
      have hdn : decide (3 < dn) = true := decide_eq_true h3
      try rw [hd]
      try rw [hdn]
      have hne : ∃ y, da = some y := by
        rcases HDA.out.1.2.2.2 with h | ⟨g, o, e, _⟩
        · rw [HDD.out] at h; omega
        · exact ⟨_, e⟩
      obtain ⟨y, hy⟩ := hne
      subst hy
      have hcp3 : 3 ≤ dcap := by omega
      have hcpi : ¬ ((dcap : Int) < 3) := by omega
      have hcp0 : ¬ (dcap = 0) := by omega
      have HL : Hid ((D0.take 3).length = 3) := Lib.hid (by rw [List.length_take, HDD.out]; omega)
      go_wp2_with fail
      go_meet
      case rel => exact ⟨D0.take 3, by rw [HL.out]; exact Nat.le_refl _, by rw [HL.out], Lib.hid (takeAds10 HDA.out 3), rfl⟩
    · have hd : decide ((3 : Int) < (dn : Int)) = false := decide_eq_false (by omega)
      have hdn : decide (3 < dn) = false := decide_eq_false h3
      try rw [hd]
      try rw [hdn]
      go_wp2_with fail
      go_meet
      case rel => exact ⟨D0, by rw [HDD.out]; omega, by rw [HDD.out], HDA, rfl⟩
  case rest =>
    obtain ⟨L, hL3, rfl, HL, rfl⟩ := hcut
    clear HDD HDA
    have h61 := HD6.out.cell 1 _ rfl
    have h62 := HD6.out.cell 2 _ rfl
    by_cases k0 : kd = 0
    · subst k0
      have HRP := Lib.hid (refPutX HST.out s ty ttl now da L.length dcap hsz hn0 (by omega))
      have HPL := Lib.hid (fun W (hb : Below wc.heap.size wc W) => putX (HST.out.below hb) s ty ttl now da dcap L (HL.out.below hb) hL3 hsz hty hn0 (by omega))
      obtain ⟨O, hO⟩ : ∃ O, outP room ps ⟨lowB s, ty, da, L.length, dcap, now + min ttl 604800⟩ ttl now = O := ⟨_, rfl⟩
      obtain ⟨fl, ge, fb⟩ := O
      rw [hO] at HRP HPL
      simp only at HRP HPL
      clear hO
      go_wp2_with (first | refine load_cc HC5 rfl _ rfl rfl rfl ?_)
      refine HRP.out.mono ?_
      rintro e w1 ⟨ad1, m1, c1, rfl, hr1, hb1⟩
      have HR1 := Lib.hid hr1
      have HB1 := Lib.hid hb1
      clear HRP hb1 hr1
      have HZC : Hid (CellsAt ((w1.alloc (.cells zCc.toArray 27)).alloc (.cells zCe.toArray 41)) w1.heap.size zCc) := Lib.hid ((CellsAt.new w1 27 zCc).below ((Below.refl _ _).alloc (Nat.le_refl _) _))
      have HZE : Hid (CellsAt ((w1.alloc (.cells zCc.toArray 27)).alloc (.cells zCe.toArray 41)) (w1.heap.size + 1) zCe) := Lib.hid (by
        have := CellsAt.new (w1.alloc (.cells zCc.toArray 27)) 41 zCe
        simpa using this)
      have hba : Below w1.heap.size w1 ((w1.alloc (.cells zCc.toArray 27)).alloc (.cells zCe.toArray 41)) := ((Below.refl _ _).alloc (Nat.le_refl _) _).alloc (by simp) _
      clear h64 h65 h60 h61 h62
      go_upto_region 8 with (first | (refine store_cc HZC rfl _ _ rfl rfl rfl rfl rfl rfl (fun W2 HW2 HX2 => ?_); have HE2 : Hid (CellsAt W2 (w1.heap.size + 1) zCe) := Lib.hid (by rw [HW2.out]; exact HZE.out.apart (by omega) _)) | (refine store_ce HE2 rfl _ _ rfl rfl rfl (vs := ceL ge) rfl rfl rfl (fun W3 HW3 HE3 => ?_)))
      have HX3 : Hid (CellsAt W3 w1.heap.size [.int .i64 room, .slice ad1 m1 c1]) := Lib.hid (by rw [HW3.out]; exact HX2.out.apart (by omega) _)
      have hb3 : Below w1.heap.size w1 W3 := by rw [HW3.out, HW2.out]; exact below_cells (by omega) _ _ _ (below_cells (Nat.le_refl _) _ _ _ hba)
      have HB3 := Lib.hid (chain HB1.out hb3)
      have HR3 := Lib.hid (HR1.out.below hb3)
      have HST3 := Lib.hid (HST.out.below HB3.out)
      have HD3 := Lib.hid (HD6.out.below HB3.out)
      have HZ3 : Hid (CellsAt W3 (P5 + 2) zCc ∧ Two W3 (P5 + 2)) := Lib.hid ⟨HZ8.out.1.below HB3.out, HZ8.out.2.below HB3.out⟩
      have HN12 : Hid (w1.heap.size ≠ b ∧ w1.heap.size + 1 ≠ b ∧ P5 + 2 ≠ w1.heap.size ∧ P5 + 2 ≠ w1.heap.size + 1) := Lib.hid (by
        have h1 := HST.out.cac.lt.2
        have h2 := HZ8.out.1.lt
        have h3 := HB1.out.size
        omega)
      have HPL3 := Lib.hid (HPL.out W3 HB3.out)
      generalize w1.heap.size = P12 at *
      clear HW2 HW3 HX2 HE2 HZC HZE hba hb3 HR1 HB1 HPL HZ8 HC5 HD6 HST HL
      have h61 := HD3.out.cell 1 _ rfl
      have h62 := HD3.out.cell 2 _ rfl
      go_wp2_with fail
      refine HPL3.out.mono ?_
      rintro e w4 ⟨rfl, hg4, rs, e4, hc4, htw4, had4⟩
      have hnm := HR3.out.notMap HST3.out.cac.mp
      have HR4 : Hid (RowC w4 0 (.slice ad1 m1 c1) (lF rs)) := Lib.hid (by
        rw [e4]
        refine HR3.out.kept hg4 ?_
        cases ho : (Value.slice ad1 m1 c1).ownBlock with
        | none => exact .inl rfl
        | some g => exact .inr (fun e => hnm g ho (by injection e)))
      have HST4 : Hid (St w4 G b room (.slice ad1 m1 c1) rs) := Lib.hid ⟨hc4, HR4.out, htw4, had4⟩
      have HX4 := Lib.hid (HX3.out.grown hg4 HN12.out.1)
      have HE4 := Lib.hid (HE3.out.grown hg4 HN12.out.2.1)
      have HZ4 : Hid (CellsAt w4 (P5 + 2) zCc ∧ Two w4 (P5 + 2)) := Lib.hid ⟨HZ3.out.1.grown hg4 HPN.out.2.1, HZ3.out.2.grown hg4 HPN.out.2.1⟩
      have HG4 : Hid (w.grownBy w4 (some b)) := Lib.hid (((grown_of_below (chain HB0.out HB3.out)).but _).andThen hg4 (fun j hj => .inr hj))
      clear hg4 e4 hc4 htw4 had4 hnm HR3 HX3 HE3 HZ3 HST3 HD3 HPL3 HB3 h61 h62
      have HZK : Hid (CellsAt (w4.alloc (.cells #[.string ⟨#[]⟩, .int .i64 0] 39)) w4.heap.size (keyL noKey)) := Lib.hid (CellsAt.new w4 39 (keyL noKey))
      have hba : Below w4.heap.size w4 (w4.alloc (.cells #[.string ⟨#[]⟩, .int .i64 0] 39)) := (Below.refl _ _).alloc (Nat.le_refl _) _
      go_upto_region 9 with (first | (refine store_key HZK _ _ rfl rfl rfl rfl (fun W5 HW5 HK5 => ?_)))
      have hb5 : Below w4.heap.size w4 W5 := by rw [HW5.out]; exact below_cells (Nat.le_refl _) _ _ _ hba
      have hbd : Below w4.heap.size w4 W5.drew := hb5.drew
      have HST5 := Lib.hid (HST4.out.below hbd)
      have HZ5 : Hid (CellsAt W5.drew (P5 + 2) zCc ∧ Two W5.drew (P5 + 2)) := Lib.hid ⟨HZ4.out.1.below hbd, HZ4.out.2.below hbd⟩
      have HG5 : Hid (w.grownBy W5.drew (some b)) := Lib.hid (HG4.out.andThen (grown_of_below hbd) (fun j hj => by cases hj))
      obtain ⟨S, hS⟩ : ∃ S : World → Prop, (fun W => CellsAt W P12 [.int .i64 room, .slice ad1 m1 c1] ∧ CellsAt W (P12 + 1) (ceL ge) ∧ CellsAt W w4.heap.size (keyL (keyC ge))) = S := ⟨_, rfl⟩
      have HS0 : Hid (S W5.drew) := Lib.hid (by rw [← hS]; exact ⟨HX4.out.below hbd, HE4.out.below hbd, HK5.out.below (Below.refl _ _).drew⟩)
      have HN15 : Hid (P5 + 2 ≠ w4.heap.size) := Lib.hid (by have := HZ4.out.1.lt; omega)
      have HSS : Hid (∀ W vs, S W → S (W.setCells (P5 + 2) 0 vs)) := Lib.hid (fun W vs h => by
        rw [← hS] at h ⊢
        exact ⟨h.1.apart (by have := HN12.out; omega) _, h.2.1.apart (by have := HN12.out; omega) _, h.2.2.apart (by have := HN15.out; omega) _⟩)
      have M0 : Hid (∀ W, S W → W.rangeAt P12 0 [.int .i64 room, .slice ad1 m1 c1]) := Lib.hid (fun W h => by rw [← hS] at h; exact h.1.range)
      have ME0 : Hid (∀ W, S W → W.cell? ⟨P12 + 1, 0, none⟩ = some (.string ge.s)) := Lib.hid (fun W h => by rw [← hS] at h; exact h.2.1.cell 0 _ rfl)
      have ME1 : Hid (∀ W, S W → W.cell? ⟨P12 + 1, 1, none⟩ = some (.int .i64 ge.t)) := Lib.hid (fun W h => by rw [← hS] at h; exact h.2.1.cell 1 _ rfl)
      have MK0 : Hid (∀ W, S W → W.cell? ⟨w4.heap.size, 0, none⟩ = some (.string ge.s)) := Lib.hid (fun W h => by rw [← hS] at h; exact h.2.2.cell 0 _ rfl)
      have MK1 : Hid (∀ W, S W → W.cell? ⟨w4.heap.size, 1, none⟩ = some (.int .i64 ge.t)) := Lib.hid (fun W h => by rw [← hS] at h; exact h.2.2.cell 1 _ rfl)
      generalize w4.heap.size = P15 at *
      clear hS hb5 hbd hba HW5 HK5 HZK HX4 HE4 HZ4 HG4 HST4 HR4
      refine wp_region_noPanic ?_
      refine wp_region_held_drew (S := S) (by kernel_rfl) HS0.out (fun hHeld => ?_)
      refine wpAnyH_take (i := 0) rfl (by kernel_rfl) (by kernel_rfl) (by kernel_rfl) (fun _ _ _ h => h) (yields_ccS M0 rfl (by rfl) _ rfl rfl) (by assumption) ?_
      try simp only [Act.put, List.getElem_toArray, List.getElem_cons_zero, List.setIfInBounds_toArray, List.set_cons_zero, List.set_cons_succ]
      refine wpAnyH_take (i := 1) (v := ?_) rfl (by kernel_rfl) (by kernel_rfl) (by kernel_rfl) (fun _ _ _ h => h) (Or.inl ⟨by rfl, ?_⟩) (by assumption) ?_
      rotate_left
      · (intro w hSw; go_simp; try (with_reducible rfl))
      try simp only [Act.put, List.getElem_toArray, List.getElem_cons_zero, List.getElem_cons_succ, List.setIfInBounds_toArray, List.set_cons_zero, List.set_cons_succ]
      refine wpAnyH_take (i := 2) (v := ?_) rfl (by kernel_rfl) (by kernel_rfl) (by kernel_rfl) (fun _ _ _ h => h) (Or.inl ⟨by rfl, ?_⟩) (by assumption) ?_
      rotate_left
      · (intro w hSw; go_simp; try (with_reducible rfl))
      try simp only [Act.put, List.getElem_toArray, List.getElem_cons_zero, List.getElem_cons_succ, List.setIfInBounds_toArray, List.set_cons_zero, List.set_cons_succ]
      refine wpAnyH_take (i := 3) (v := ?_) rfl (by kernel_rfl) (by kernel_rfl) (by kernel_rfl) (fun _ _ _ h => h) (Or.inl ⟨by rfl, ?_⟩) (by assumption) ?_
      rotate_left
      · (intro w hSw; go_simp; try (with_reducible rfl))
      try simp only [Act.put, List.getElem_toArray, List.getElem_cons_zero, List.getElem_cons_succ, List.setIfInBounds_toArray, List.set_cons_zero, List.set_cons_succ]
      refine wpAnyH_take (i := 4) (v := ?_) rfl (by kernel_rfl) (by kernel_rfl) (by kernel_rfl) (fun _ _ _ h => h) (Or.inl ⟨by rfl, ?_⟩) (by assumption) ?_
      rotate_left
      · (intro w hSw; go_simp; try (with_reducible rfl))
      try simp only [Act.put, List.getElem_toArray, List.getElem_cons_zero, List.getElem_cons_succ, List.setIfInBounds_toArray, List.set_cons_zero, List.set_cons_succ]
      refine wpAnyH_take (i := 5) (v := ?_) rfl (by kernel_rfl) (by kernel_rfl) (by kernel_rfl) (fun _ _ _ h => h) (Or.inl ⟨by rfl, ?_⟩) (by assumption) ?_
      rotate_left
      · (intro w hSw; go_simp; try (with_reducible rfl))
      try simp only [Act.put, List.getElem_toArray, List.getElem_cons_zero, List.getElem_cons_succ, List.setIfInBounds_toArray, List.set_cons_zero, List.set_cons_succ]
      refine wpAnyH_take (i := 6) (v := ?_) rfl (by kernel_rfl) (by kernel_rfl) (by kernel_rfl) (fun _ _ _ h => h) (Or.inl ⟨by rfl, ?_⟩) (by assumption) ?_
      rotate_left
      · (intro w hSw; have hc0 := MK0.out w hSw; go_simp; try (with_reducible rfl))
      try simp only [Act.put, List.getElem_toArray, List.getElem_cons_zero, List.getElem_cons_succ, List.setIfInBounds_toArray, List.set_cons_zero, List.set_cons_succ]
      refine wpAnyH_take (i := 7) (v := ?_) rfl (by kernel_rfl) (by kernel_rfl) (by kernel_rfl) (fun _ _ _ h => h) (Or.inl ⟨by rfl, ?_⟩) (by assumption) ?_
      rotate_left
      · (intro w hSw; go_simp; try (with_reducible rfl))
      try simp only [Act.put, List.getElem_toArray, List.getElem_cons_zero, List.getElem_cons_succ, List.setIfInBounds_toArray, List.set_cons_zero, List.set_cons_succ]
      refine wpAnyH_take (i := 8) (v := ?_) rfl (by kernel_rfl) (by kernel_rfl) (by kernel_rfl) (fun _ _ _ h => h) (Or.inl ⟨by rfl, ?_⟩) (by assumption) ?_
      rotate_left
      · (intro w hSw; have hc0 := ME0.out w hSw; go_simp; try (with_reducible rfl))
      try simp only [Act.put, List.getElem_toArray, List.getElem_cons_zero, List.getElem_cons_succ, List.setIfInBounds_toArray, List.set_cons_zero, List.set_cons_succ]
      refine wpAnyH_take (i := 9) (v := ?_) rfl (by kernel_rfl) (by kernel_rfl) (by kernel_rfl) (fun _ _ _ h => h) (Or.inl ⟨by rfl, ?_⟩) (by assumption) ?_
      rotate_left
      · (intro w hSw; go_simp; try (with_reducible rfl))
      try simp only [Act.put, List.getElem_toArray, List.getElem_cons_zero, List.getElem_cons_succ, List.setIfInBounds_toArray, List.set_cons_zero, List.set_cons_succ]
      refine wpAnyH_take (i := 10) (v := ?_) rfl (by kernel_rfl) (by kernel_rfl) (by kernel_rfl) (fun _ _ _ h => h) (Or.inl ⟨by rfl, ?_⟩) (by assumption) ?_
      rotate_left
      · (intro w hSw; go_simp; try (with_reducible rfl))
      try simp only [Act.put, List.getElem_toArray, List.getElem_cons_zero, List.getElem_cons_succ, List.setIfInBounds_toArray, List.set_cons_zero, List.set_cons_succ]
      refine wpAnyH_take (i := 11) (v := ?_) rfl (by kernel_rfl) (by kernel_rfl) (by kernel_rfl) (fun _ _ _ h => h) (Or.inl ⟨by rfl, ?_⟩) (by assumption) ?_
      rotate_left
      · (intro w hSw; go_simp; try (with_reducible rfl))
      try simp only [Act.put, List.getElem_toArray, List.getElem_cons_zero, List.getElem_cons_succ, List.setIfInBounds_toArray, List.set_cons_zero, List.set_cons_succ]
      refine wpAnyH_take (i := 12) (v := ?_) rfl (by kernel_rfl) (by kernel_rfl) (by kernel_rfl) (fun _ _ _ h => h) (Or.inl ⟨by rfl, ?_⟩) (by assumption) ?_
      rotate_left
      · (intro w hSw; go_simp; try (with_reducible rfl))
      try simp only [Act.put, List.getElem_toArray, List.getElem_cons_zero, List.getElem_cons_succ, List.setIfInBounds_toArray, List.set_cons_zero, List.set_cons_succ]
      refine wpAnyH_take (i := 13) (v := ?_) rfl (by kernel_rfl) (by kernel_rfl) (by kernel_rfl) (fun _ _ _ h => h) (Or.inl ⟨by rfl, ?_⟩) (by assumption) ?_
      rotate_left
      · (intro w hSw; have hc0 := MK1.out w hSw; go_simp; try (with_reducible rfl))
      try simp only [Act.put, List.getElem_toArray, List.getElem_cons_zero, List.getElem_cons_succ, List.setIfInBounds_toArray, List.set_cons_zero, List.set_cons_succ]
      refine wpAnyH_take (i := 14) (v := ?_) rfl (by kernel_rfl) (by kernel_rfl) (by kernel_rfl) (fun _ _ _ h => h) (Or.inl ⟨by rfl, ?_⟩) (by assumption) ?_
      rotate_left
      · (intro w hSw; go_simp; try (with_reducible rfl))
      try simp only [Act.put, List.getElem_toArray, List.getElem_cons_zero, List.getElem_cons_succ, List.setIfInBounds_toArray, List.set_cons_zero, List.set_cons_succ]
      refine wpAnyH_take (i := 15) (v := ?_) rfl (by kernel_rfl) (by kernel_rfl) (by kernel_rfl) (fun _ _ _ h => h) (Or.inl ⟨by rfl, ?_⟩) (by assumption) ?_
      rotate_left
      · (intro w hSw; have hc0 := ME1.out w hSw; go_simp; try (with_reducible rfl))
      try simp only [Act.put, List.getElem_toArray, List.getElem_cons_zero, List.getElem_cons_succ, List.setIfInBounds_toArray, List.set_cons_zero, List.set_cons_succ]
      refine wpAnyH_take (i := 16) (v := ?_) rfl (by kernel_rfl) (by kernel_rfl) (by kernel_rfl) (fun _ _ _ h => h) (Or.inl ⟨by rfl, ?_⟩) (by assumption) ?_
      rotate_left
      · (intro w hSw; go_simp; try (with_reducible rfl))
      try simp only [Act.put, List.getElem_toArray, List.getElem_cons_zero, List.getElem_cons_succ, List.setIfInBounds_toArray, List.set_cons_zero, List.set_cons_succ]
      refine wpAnyH_take (i := 17) (v := ?_) rfl (by kernel_rfl) (by kernel_rfl) (by kernel_rfl) (fun _ _ _ h => h) (Or.inl ⟨by rfl, ?_⟩) (by assumption) ?_
      rotate_left
      · (intro w hSw; go_simp; try (with_reducible rfl))
      try simp only [Act.put, List.getElem_toArray, List.getElem_cons_zero, List.getElem_cons_succ, List.setIfInBounds_toArray, List.set_cons_zero, List.set_cons_succ]
      refine wpAnyH_ready (rs := [18]) (by kernel_rfl) (by simp) ?_
      refine AllReadyH.one rfl rfl (fun K hK => ?_)
      refine wp_store_cc (Lib.hid HZ5.out.1) rfl _ _ rfl rfl (vs := [.int .i64 room, .slice ad1 m1 c1]) rfl rfl rfl (fun V HV HVC => ?_)
      have HSV : Hid (S V) := Lib.hid (by rw [HV.out]; exact HSS.out _ _ hHeld)
      refine hK.out _ _ HSV.out (fun hHeld => ?_)
      clear hK K
      try simp only [Act.put]
      refine wpAnyH_take (i := 19) (v := ?_) rfl (by kernel_rfl) (by kernel_rfl) (by kernel_rfl) (fun _ _ _ h => h) (Or.inl ⟨by rfl, ?_⟩) (by assumption) ?_
      rotate_left
      · (intro w hSw; go_simp; try (with_reducible rfl))
      try simp only [Act.put, List.getElem_toArray, List.getElem_cons_zero, List.getElem_cons_succ, List.setIfInBounds_toArray, List.set_cons_zero, List.set_cons_succ]
      refine wpAnyH_done (by kernel_rfl) ?_ _
      refine NoPanic.normal ?_
      go_wp2_with fail
      refine bodyPost_ret (results_cc2 Try.results11 rfl HVC.out rfl) rfl ⟨ad1, m1, c1, rs, rfl, ?_, ?_⟩
      · rw [HV.out]; exact HST5.out.sets2 HZ5.out.2 HPN.out.1 _
      · rw [HV.out]; exact grown_sets HG5.out (by have := HW5.out; omega) _
    · have hq0 : (kd == 0) = false := by simpa using k0
      have hd0 : decide (kd = 0) = false := decide_eq_false k0
      by_cases k1 : kd = 1
      · subst k1
        obtain ⟨L2, hb, a2, c2, hl2, hA2, hgc, hcall⟩ := getX HST.out s ty now hsz hty
        have HCALL := Lib.hid hcall
        have HA2 := Lib.hid hA2
        have HRG := Lib.hid (fun W (hb : Below wc.heap.size wc W) => refGetC_any room (.slice vad n0 vc) (lF ps) s ty now W 0 (HST.out.below hb).row hsz)
        rw [hgc] at HRG
        clear hcall hA2 hgc
        go_wp2_with fail
        refine HCALL.out.mono ?_
        rintro e w1 ⟨hb1, a1, c1, rfl, hA1⟩
        have HB1 := Lib.hid hb1
        have HA1 := Lib.hid hA1
        have HC51 := Lib.hid (HC5.out.below hb1)
        have HRG1 := Lib.hid (HRG.out w1 hb1)
        have HD61 := Lib.hid (HD6.out.below hb1)
        clear hb1 hA1 HCALL HRG h60 h61 h62 h64 h65
        have h61 := HD61.out.cell 1 _ rfl
        go_wp2_with (first | refine load_cc HC51 rfl _ rfl rfl rfl ?_)
        refine HRG1.out.mono ?_
        rintro e w2 ⟨rfl, hb2⟩
        have HB2 := Lib.hid (chain HB1.out hb2)
        replace HA1 := Lib.hid (HA1.out.below hb2)
        clear hb2 HRG1 HC51 HB1 HD61 h61
        have hbd : Below wc.heap.size wc w2.drew := HB2.out.drew
        obtain ⟨S, hS⟩ : ∃ S : World → Prop, (fun W => St W G b room (.slice vad n0 vc) ps ∧ AdsIn W a1 c1 L2 ∧ AdsIn W a2 c2 L2 ∧ CellsAt W P5 [.int .i64 room, .slice vad n0 vc] ∧ Two W (P5 + 2) ∧ (∃ us, us.length = 2 ∧ CellsAt W (P5 + 2) us) ∧ w.grownBy W (some b)) = S := ⟨_, rfl⟩
        have HS0 : Hid (S w2.drew) := Lib.hid (by
          rw [← hS]
          exact ⟨HST.out.below hbd, HA1.out.below (Below.refl _ _).drew, HA2.out.below hbd, HC5.out.below hbd, HZ8.out.2.below hbd, ⟨_, rfl, HZ8.out.1.below hbd⟩, (grown_of_below (chain HB0.out hbd)).but _⟩)
        have HSA : ∀ W, S W → Hid (Calls Try.prog 21 #[.slice a1 L2.length c1, .slice a2 L2.length c2] W fun e w' => e = .returned (.bool true) ∧ S w') := fun W h => Lib.hid (by
          rw [← hS] at h ⊢
          obtain ⟨h1, h2, h3, h4, h5, ⟨us, h6, h7⟩, h8⟩ := h
          have := sameAdsC_any a1 a2 c1 c2 L2 L2 W h2.1 h3.1 (by omega) (by omega)
          rw [decide_eq_true (show L2 = L2 from rfl)] at this
          refine this.mono ?_
          rintro e w' ⟨rfl, hb⟩
          exact ⟨rfl, h1.below hb, h2.below hb, h3.below hb, h4.below hb, h5.below hb, ⟨us, h6, h7.below hb⟩, h8.andThen (grown_of_below hb) (fun j hj => by cases hj)⟩)
        have M0 : Hid (∀ W, S W → W.rangeAt P5 0 [.int .i64 room, .slice vad n0 vc]) := Lib.hid (fun W h => by rw [← hS] at h; exact h.2.2.2.1.range)
        have HZX : Hid (∀ W, S W → ∃ us, us.length = 2 ∧ CellsAt W (P5 + 2) us) := Lib.hid (fun W h => by rw [← hS] at h; exact h.2.2.2.2.2.1)
        have HSS : Hid (∀ W x y, S W → S (W.setCells (P5 + 2) 0 [x, y])) := Lib.hid (fun W x y h => by
          rw [← hS] at h ⊢
          obtain ⟨h1, h2, h3, h4, h5, ⟨us, h6, h7⟩, h8⟩ := h
          refine ⟨h1.sets2 h5 HPN.out.1 _, h2.sets2 h5, h3.sets2 h5, h4.apart (by omega) _, h5.sets x y, ⟨[x, y], rfl, h7.stored [x, y] h6.symm⟩, grown_sets h8 (by have := HW5.out; omega) _⟩)
        have HFIN : Hid (∀ W, S W → St W G b room (.slice vad n0 vc) ps ∧ w.grownBy W (some b)) := Lib.hid (fun W h => by rw [← hS] at h; exact ⟨h.1, h.2.2.2.2.2.2⟩)
        clear hS hbd HB2 HA1 HA2
        go_upto_region 13 with fail
        refine wp_region_noPanic ?_
        refine wp_region_held_drew (S := S) (by kernel_rfl) HS0.out (fun hHeld => ?_)
        refine wpAnyH_take (i := 0) rfl (by kernel_rfl) (by kernel_rfl) (by kernel_rfl) (fun _ _ _ h => h) (yields_ccS M0 rfl (by rfl) _ rfl rfl) (by assumption) ?_
        try simp only [Act.put, List.getElem_toArray, List.getElem_cons_zero, List.setIfInBounds_toArray, List.set_cons_zero, List.set_cons_succ]
        refine wpAnyH_take (i := 1) (v := ?_) rfl (by kernel_rfl) (by kernel_rfl) (by kernel_rfl) (fun _ _ _ h => h) (Or.inl ⟨by rfl, ?_⟩) (by assumption) ?_
        rotate_left
        · (intro w hSw; go_simp; try (with_reducible rfl))
        try simp only [Act.put, List.getElem_toArray, List.getElem_cons_zero, List.getElem_cons_succ, List.setIfInBounds_toArray, List.set_cons_zero, List.set_cons_succ]
        refine wpAnyH_take (i := 2) (v := ?_) rfl (by kernel_rfl) (by kernel_rfl) (by kernel_rfl) (fun _ _ _ h => h) (Or.inl ⟨by rfl, ?_⟩) (by assumption) ?_
        rotate_left
        · (intro w hSw; go_simp; try (with_reducible rfl))
        try simp only [Act.put, List.getElem_toArray, List.getElem_cons_zero, List.getElem_cons_succ, List.setIfInBounds_toArray, List.set_cons_zero, List.set_cons_succ]
        refine wpAnyH_ready (rs := [3]) (by kernel_rfl) (by simp) ?_
        refine AllReadyH.cons rfl (fun K hK => ?_) AllReadyH.nil
        go_simp
        refine (HSA _ (by assumption)).out.mono ?_
        rintro e wr3 ⟨rfl, hS3⟩
        go_wp2_with fail
        refine hK.out _ _ hS3 (fun hHeld => ?_)
        clear hK K
        try simp only [Act.put, List.getElem_toArray, List.getElem_cons_zero, List.getElem_cons_succ, List.setIfInBounds_toArray, List.set_cons_zero, List.set_cons_succ]
        refine wpAnyH_take (i := 4) (v := ?_) rfl (by kernel_rfl) (by kernel_rfl) (by kernel_rfl) (fun _ _ _ h => h) (Or.inl ⟨by rfl, ?_⟩) (by assumption) ?_
        rotate_left
        · (intro w hSw; go_simp; try (with_reducible rfl))
        try simp only [Act.put, List.getElem_toArray, List.getElem_cons_zero, List.getElem_cons_succ, List.setIfInBounds_toArray, List.set_cons_zero, List.set_cons_succ]
        refine wpAnyH_take (i := 5) (v := ?_) rfl (by kernel_rfl) (by kernel_rfl) (by kernel_rfl) (fun _ _ _ h => h) (Or.inl ⟨by rfl, ?_⟩) (by assumption) ?_
        rotate_left
        · (intro w hSw; go_simp; try (with_reducible rfl))
        try simp only [Act.put, List.getElem_toArray, List.getElem_cons_zero, List.getElem_cons_succ, List.setIfInBounds_toArray, List.set_cons_zero, List.set_cons_succ]
        refine wpAnyH_take (i := 6) (v := ?_) rfl (by kernel_rfl) (by kernel_rfl) (by kernel_rfl) (fun _ _ _ h => h) (Or.inl ⟨by rfl, ?_⟩) (by assumption) ?_
        rotate_left
        · (intro w hSw; go_simp; try (with_reducible rfl))
        try simp only [Act.put, List.getElem_toArray, List.getElem_cons_zero, List.getElem_cons_succ, List.setIfInBounds_toArray, List.set_cons_zero, List.set_cons_succ]
        refine wpAnyH_take (i := 7) (v := ?_) rfl (by kernel_rfl) (by kernel_rfl) (by kernel_rfl) (fun _ _ _ h => h) (Or.inl ⟨by rfl, ?_⟩) (by assumption) ?_
        rotate_left
        · (intro w hSw; go_simp; try (with_reducible rfl))
        try simp only [Act.put, List.getElem_toArray, List.getElem_cons_zero, List.getElem_cons_succ, List.setIfInBounds_toArray, List.set_cons_zero, List.set_cons_succ]
        refine wpAnyH_take (i := 8) (v := ?_) rfl (by kernel_rfl) (by kernel_rfl) (by kernel_rfl) (fun _ _ _ h => h) (Or.inl ⟨by rfl, ?_⟩) (by assumption) ?_
        rotate_left
        · (intro w hSw; go_simp; try (with_reducible rfl))
        try simp only [Act.put, List.getElem_toArray, List.getElem_cons_zero, List.getElem_cons_succ, List.setIfInBounds_toArray, List.set_cons_zero, List.set_cons_succ]
        obtain ⟨us, hus, hzu⟩ := HZX.out _ hHeld
        refine wpAnyH_ready (rs := [9]) (by kernel_rfl) (by simp) ?_
        refine AllReadyH.one rfl rfl (fun K hK => ?_)
        refine wp_store_cc (Lib.hid hzu) hus _ _ rfl rfl (vs := [.int .i64 room, .slice vad n0 vc]) rfl rfl rfl (fun V HV HVC => ?_)
        have HSV : Hid (S V) := Lib.hid (by rw [HV.out]; exact HSS.out _ _ _ hHeld)
        refine hK.out _ _ HSV.out (fun hHeld => ?_)
        clear hK K
        try simp only [Act.put]
        refine wpAnyH_take (i := 10) (v := ?_) rfl (by kernel_rfl) (by kernel_rfl) (by kernel_rfl) (fun _ _ _ h => h) (Or.inl ⟨by rfl, ?_⟩) (by assumption) ?_
        rotate_left
        · (intro w hSw; go_simp; try (with_reducible rfl))
        try simp only [Act.put, List.getElem_toArray, List.getElem_cons_zero, List.getElem_cons_succ, List.setIfInBounds_toArray, List.set_cons_zero, List.set_cons_succ]
        refine wpAnyH_done (by kernel_rfl) ?_ _
        refine NoPanic.normal ?_
        go_wp2_with fail
        exact bodyPost_ret (results_cc2 Try.results11 rfl HVC.out rfl) rfl ⟨vad, n0, vc, ps, rfl, (HFIN.out _ hHeld).1, (HFIN.out _ hHeld).2⟩
      · have hq1 : (kd == 1) = false := by simpa using k1
        have hd1 : decide (kd = 1) = false := decide_eq_false k1
        by_cases k2 : kd = 2
        · subst k2
          have HRS := Lib.hid (refSweepC_any room (.slice vad n0 vc) (lF ps) now wc 0 HST.out.row)
          have HSX := Lib.hid (fun W (hb : Below wc.heap.size wc W) => sweepX (HST.out.below hb) now)
          generalize (lF ps).length - (sweepC (lF ps) now).length = cnt at *
          go_wp2_with (first | refine load_cc HC5 rfl _ rfl rfl rfl ?_)
          refine HRS.out.mono ?_
          rintro e w1 ⟨v1, rfl, hr1, hb1⟩
          obtain ⟨ad1, c1, rfl⟩ := hr1.slice
          obtain ⟨m1, hm1⟩ : ∃ m1, (sweepC (lF ps) now).length = m1 := ⟨_, rfl⟩
          rw [hm1] at hr1 ⊢
          have HR1 : Hid (RowC w1 0 (.slice ad1 m1 c1) (sweepC (lF ps) now)) := Lib.hid (hr1.mono (Nat.zero_le _))
          have HB1 := Lib.hid hb1
          clear hb1 hr1 hm1 HRS h60 h61 h62 h64 h65
          have HZC : Hid (CellsAt (w1.alloc (.cells zCc.toArray 27)) w1.heap.size zCc) := Lib.hid (CellsAt.new w1 27 zCc)
          have hba : Below w1.heap.size w1 (w1.alloc (.cells zCc.toArray 27)) := (Below.refl _ _).alloc (Nat.le_refl _) _
          go_upto_region 16 with (first | (refine store_cc HZC rfl _ _ rfl rfl rfl rfl rfl rfl (fun W2 HW2 HX2 => ?_)))
          have hb2 : Below w1.heap.size w1 W2.drew := (show Below w1.heap.size w1 W2 by rw [HW2.out]; exact below_cells (Nat.le_refl _) _ _ _ hba).drew
          have HN21 : Hid (w1.heap.size ≠ b ∧ w1.heap.size ≠ P5 + 2) := Lib.hid (by
            have h1 := HST.out.cac.lt.2
            have h2 := HZ8.out.1.lt
            have h3 := HB1.out.size
            omega)
          have hbc := chain HB1.out hb2
          have HX2d := Lib.hid (HX2.out.below (Below.refl _ _).drew)
          have HR2 := Lib.hid (HR1.out.below hb2)
          have HST2 := Lib.hid (HST.out.below hbc)
          have HSX2 := Lib.hid (HSX.out _ hbc)
          have HZ2 : Hid (CellsAt W2.drew (P5 + 2) zCc ∧ Two W2.drew (P5 + 2)) := Lib.hid ⟨HZ8.out.1.below hbc, HZ8.out.2.below hbc⟩
          have HG2 : Hid (w.grownBy W2.drew (some b)) := Lib.hid ((grown_of_below (chain HB0.out hbc)).but _)
          obtain ⟨S, hS⟩ : ∃ S : World → Prop, (fun W => CellsAt W w1.heap.size [.int .i64 room, .slice ad1 m1 c1]) = S := ⟨_, rfl⟩
          have HS0 : Hid (S W2.drew) := Lib.hid (by rw [← hS]; exact HX2d.out)
          have M0 : Hid (∀ W, S W → W.rangeAt w1.heap.size 0 [.int .i64 room, .slice ad1 m1 c1]) := Lib.hid (fun W h => by rw [← hS] at h; exact h.range)
          have HSG : Hid (∀ W, W2.drew.grownBy W (some b) → S W) := Lib.hid (fun W hg => by rw [← hS]; exact HX2d.out.grown hg HN21.out.1)
          have HSS : Hid (∀ W vs, S W → S (W.setCells (P5 + 2) 0 vs)) := Lib.hid (fun W vs h => by rw [← hS] at h ⊢; exact h.apart HN21.out.2 _)
          generalize w1.heap.size = P21 at *
          clear hS hb2 hbc hba HW2 HX2 HX2d HZC HR1 HB1 HST HZ8 HSX
          refine wp_region_noPanic ?_
          refine wp_region_held_drew (S := S) (by kernel_rfl) HS0.out (fun hHeld => ?_)
          refine wpAnyH_take (i := 0) rfl (by kernel_rfl) (by kernel_rfl) (by kernel_rfl) (fun _ _ _ h => h) (yields_ccS M0 rfl (by rfl) _ rfl rfl) (by assumption) ?_
          try simp only [Act.put, List.getElem_toArray, List.getElem_cons_zero, List.setIfInBounds_toArray, List.set_cons_zero, List.set_cons_succ]
          refine wpAnyH_take (i := 1) (v := ?_) rfl (by kernel_rfl) (by kernel_rfl) (by kernel_rfl) (fun _ _ _ h => h) (Or.inl ⟨by rfl, ?_⟩) (by assumption) ?_
          rotate_left
          · (intro w hSw; go_simp; try (with_reducible rfl))
          try simp only [Act.put, List.getElem_toArray, List.getElem_cons_zero, List.getElem_cons_succ, List.setIfInBounds_toArray, List.set_cons_zero, List.set_cons_succ]
          refine wpAnyH_take (i := 2) (v := ?_) rfl (by kernel_rfl) (by kernel_rfl) (by kernel_rfl) (fun _ _ _ h => h) (Or.inl ⟨by rfl, ?_⟩) (by assumption) ?_
          rotate_left
          · (intro w hSw; go_simp; try (with_reducible rfl))
          try simp only [Act.put, List.getElem_toArray, List.getElem_cons_zero, List.getElem_cons_succ, List.setIfInBounds_toArray, List.set_cons_zero, List.set_cons_succ]
          refine wpAnyH_take (i := 4) (v := ?_) rfl (by kernel_rfl) (by kernel_rfl) (by kernel_rfl) (fun _ _ _ h => h) (Or.inl ⟨by rfl, ?_⟩) (by assumption) ?_
          rotate_left
          · (intro w hSw; go_simp; try (with_reducible rfl))
          try simp only [Act.put, List.getElem_toArray, List.getElem_cons_zero, List.getElem_cons_succ, List.setIfInBounds_toArray, List.set_cons_zero, List.set_cons_succ]
          refine wpAnyH_ready (rs := [3]) (by kernel_rfl) (by simp) ?_
          refine AllReadyH.cons rfl (fun K hK => ?_) AllReadyH.nil
          go_simp
          refine HSX2.out.mono ?_
          rintro e w3 ⟨rfl, hg3, rs, e3, hc3, htw3, had3⟩
          have hnm := HR2.out.notMap HST2.out.cac.mp
          have HR3 : Hid (RowC w3 0 (.slice ad1 m1 c1) (lF rs)) := Lib.hid (by
            rw [e3]
            refine HR2.out.kept hg3 ?_
            cases ho : (Value.slice ad1 m1 c1).ownBlock with
            | none => exact .inl rfl
            | some g => exact .inr (fun e => hnm g ho (by injection e)))
          have HST3 : Hid (St w3 G b room (.slice ad1 m1 c1) rs) := Lib.hid ⟨hc3, HR3.out, htw3, had3⟩
          have HZ3 : Hid (CellsAt w3 (P5 + 2) zCc ∧ Two w3 (P5 + 2)) := Lib.hid ⟨HZ2.out.1.grown hg3 HPN.out.2.1, HZ2.out.2.grown hg3 HPN.out.2.1⟩
          have HG3 : Hid (w.grownBy w3 (some b)) := Lib.hid (HG2.out.andThen hg3 (fun j hj => .inr hj))
          have hS3 := HSG.out _ hg3
          clear hg3 e3 hc3 htw3 had3 hnm HR2 HST2 HZ2 HG2 HSX2 HSG HR3
          go_wp2_with fail
          refine hK.out _ _ hS3 (fun hHeld => ?_)
          clear hK K hS3
          try simp only [Act.put, List.getElem_toArray, List.getElem_cons_zero, List.getElem_cons_succ, List.setIfInBounds_toArray, List.set_cons_zero, List.set_cons_succ]
          refine wpAnyH_take (i := 5) (v := ?_) rfl (by kernel_rfl) (by kernel_rfl) (by kernel_rfl) (fun _ _ _ h => h) (Or.inl ⟨by rfl, ?_⟩) (by assumption) ?_
          rotate_left
          · (intro w hSw; go_simp; try (with_reducible rfl))
          try simp only [Act.put, List.getElem_toArray, List.getElem_cons_zero, List.getElem_cons_succ, List.setIfInBounds_toArray, List.set_cons_zero, List.set_cons_succ]
          refine wpAnyH_ready (rs := [6]) (by kernel_rfl) (by simp) ?_
          refine AllReadyH.one rfl rfl (fun K hK => ?_)
          refine wp_store_cc (Lib.hid HZ3.out.1) rfl _ _ rfl rfl (vs := [.int .i64 room, .slice ad1 m1 c1]) rfl rfl rfl (fun V HV HVC => ?_)
          have HSV : Hid (S V) := Lib.hid (by rw [HV.out]; exact HSS.out _ _ hHeld)
          refine hK.out _ _ HSV.out (fun hHeld => ?_)
          clear hK K
          try simp only [Act.put]
          refine wpAnyH_take (i := 7) (v := ?_) rfl (by kernel_rfl) (by kernel_rfl) (by kernel_rfl) (fun _ _ _ h => h) (Or.inl ⟨by rfl, ?_⟩) (by assumption) ?_
          rotate_left
          · (intro w hSw; go_simp; try (with_reducible rfl))
          try simp only [Act.put, List.getElem_toArray, List.getElem_cons_zero, List.getElem_cons_succ, List.setIfInBounds_toArray, List.set_cons_zero, List.set_cons_succ]
          refine wpAnyH_done (by kernel_rfl) ?_ _
          refine NoPanic.normal ?_
          go_wp2_with fail
          refine bodyPost_ret (results_cc2 Try.results11 rfl HVC.out rfl) rfl ⟨ad1, m1, c1, rs, rfl, ?_, ?_⟩
          · rw [HV.out]; exact HST3.out.sets2 HZ3.out.2 HPN.out.1 _
          · rw [HV.out]; exact grown_sets HG3.out (by have := HW5.out; omega) _
        · have hq2 : (kd == 2) = false := by simpa using k2
          have hd2 : decide (kd = 2) = false := decide_eq_false k2
          have HUN := Lib.hid (until_any G b room (lE ps) s ty wc HST.out.cac hsz hty)
          have HFI := Lib.hid (fun W (hb : Below wc.heap.size wc W) => refFindC_any room (.slice vad n0 vc) (lF ps) s ty W 0 (HST.out.below hb).row hsz)
          rcases untilX HST.out (lowB s) ty with ⟨u1, u2, u3⟩ | ⟨i, hi, u1, u2, u3⟩
          · rw [u2, u3] at HUN
            rw [u1] at HFI
            clear u1 u2 u3
            go_wp2_with fail
            refine HUN.out.mono ?_
            rintro e w1 ⟨rfl, hb1⟩
            have HB1 := Lib.hid hb1
            have HC51 := Lib.hid (HC5.out.below hb1)
            have HD61 := Lib.hid (HD6.out.below hb1)
            have HFI1 := Lib.hid (HFI.out w1 hb1)
            clear hb1 HUN HFI h60 h61 h62 h64 h65
            have h61 := HD61.out.cell 1 _ rfl
            go_wp2_with (first | refine load_cc HC51 rfl _ rfl rfl rfl ?_)
            refine HFI1.out.mono ?_
            rintro e w2 ⟨rfl, hb2⟩
            have hbc := chain HB1.out hb2
            have HC52 := Lib.hid (HC5.out.below hbc)
            have HZ2 : Hid (CellsAt w2 (P5 + 2) zCc) := Lib.hid (HZ8.out.1.below hbc)
            have HT2 := Lib.hid (HZ8.out.2.below hbc)
            have HST2 := Lib.hid (HST.out.below hbc)
            have HG2 : Hid (w.grownBy w2 (some b)) := Lib.hid ((grown_of_below (chain HB0.out hbc)).but _)
            clear hb2 hbc HFI1 HC51 HD61 h61 HB1 HC5 HD6 HZ8 HST
            go_wp2_with (first | refine load_cc HC52 rfl _ rfl rfl rfl ?_ | (refine store_cc HZ2 rfl _ _ rfl rfl rfl rfl rfl rfl (fun V HV HVC => ?_)))
            refine bodyPost_ret (results_cc2 Try.results11 rfl HVC.out rfl) rfl ⟨vad, n0, vc, ps, rfl, ?_, ?_⟩
            · rw [HV.out]; exact HST2.out.sets2 HT2.out HPN.out.1 _
            · rw [HV.out]; exact grown_sets HG2.out (by have := HW5.out; omega) _
          · rw [u2, u3] at HUN
            rw [u1] at HFI
            clear u1 u2 u3
            have hlt : ((i : Int) < 0) = False := by simp
            have hdl : decide ((i : Int) < 0) = false := decide_eq_false (by omega)
            have hi2 : i < n0 := by rw [← HNN.out]; exact hi
            have hi1 : (0 : Int) ≤ (i : Int) := by omega
            have hi3 : (i : Int) < (n0 : Int) := by omega
            go_wp2_with fail
            refine HUN.out.mono ?_
            rintro e w1 ⟨rfl, hb1⟩
            have HB1 := Lib.hid hb1
            have HC51 := Lib.hid (HC5.out.below hb1)
            have HD61 := Lib.hid (HD6.out.below hb1)
            have HFI1 := Lib.hid (HFI.out w1 hb1)
            clear hb1 HUN HFI h60 h61 h62 h64 h65
            have h61 := HD61.out.cell 1 _ rfl
            go_wp2_with (first | refine load_cc HC51 rfl _ rfl rfl rfl ?_)
            refine HFI1.out.mono ?_
            rintro e w2 ⟨rfl, hb2⟩
            have hbc := (chain HB1.out hb2).drew
            have HC52 := Lib.hid (HC5.out.below hbc)
            have HZ2 : Hid (CellsAt w2.drew (P5 + 2) zCc) := Lib.hid (HZ8.out.1.below hbc)
            have HT2 := Lib.hid (HZ8.out.2.below hbc)
            have HST2 := Lib.hid (HST.out.below hbc)
            have HG2 : Hid (w.grownBy w2.drew (some b)) := Lib.hid ((grown_of_below (chain HB0.out hbc)).but _)
            clear hb2 hbc HFI1 HC51 HD61 h61 HB1 HC5 HD6 HZ8 HST
            rcases HST2.out.row.form with ⟨_, h⟩ | ⟨g, cap, e, _, _, _, _, hr⟩
            · rw [h] at hi; exact absurd hi (by simp)
            · have hgP := HST2.out.row.notTwo HT2.out g (by rw [e]; rfl)
              injection e with e1 e2 e3
              subst e1
              have hce := range_ce hr i hi
              rw [Nat.zero_add] at hce
              generalize (lF ps)[i] = ee at *
              obtain ⟨S, hS⟩ : ∃ S : World → Prop, (fun W => CellsAt W P5 [.int .i64 room, .slice (some ⟨g, 0, none⟩) n0 vc] ∧ W.rangeAt g (i * 4) (ceL ee)) = S := ⟨_, rfl⟩
              have HS0 : Hid (S w2.drew) := Lib.hid (by rw [← hS]; exact ⟨HC52.out, hce⟩)
              have M0 : Hid (∀ W, S W → W.rangeAt P5 0 [.int .i64 room, .slice (some ⟨g, 0, none⟩) n0 vc]) := Lib.hid (fun W h => by rw [← hS] at h; exact h.1.range)
              have M3 : Hid (∀ W, S W → W.cell? ⟨P5, 1, none⟩ = some (.slice (some ⟨g, 0, none⟩) n0 vc)) := Lib.hid (fun W h => by rw [← hS] at h; exact h.1.cell 1 _ rfl)
              have M7 : Hid (∀ W, S W → W.cell? ⟨g, i * 4 + 3, none⟩ = some (.int .i64 ee.u)) := Lib.hid (fun W h => by rw [← hS] at h; have := h.2 3 _ rfl; simpa using this)
              have HSS : Hid (∀ W vs, S W → S (W.setCells (P5 + 2) 0 vs)) := Lib.hid (fun W vs h => by rw [← hS] at h ⊢; exact ⟨h.1.apart (by omega) _, World.rangeAt_setCells_apart h.2 _ _ _ (.inl hgP)⟩)
              generalize ee.u = eu at *
              clear hS hr hce HC52
              go_upto_region 21 with fail
              refine wp_region_noPanic ?_
              refine wp_region_held_drew (S := S) (by kernel_rfl) HS0.out (fun hHeld => ?_)
              refine wpAnyH_take (i := 0) rfl (by kernel_rfl) (by kernel_rfl) (by kernel_rfl) (fun _ _ _ h => h) (yields_ccS M0 rfl (by rfl) _ rfl rfl) (by assumption) ?_
              try simp only [Act.put, List.getElem_toArray, List.getElem_cons_zero, List.setIfInBounds_toArray, List.set_cons_zero, List.set_cons_succ]
              refine wpAnyH_take (i := 1) (v := ?_) rfl (by kernel_rfl) (by kernel_rfl) (by kernel_rfl) (fun _ _ _ h => h) (Or.inl ⟨by rfl, ?_⟩) (by assumption) ?_
              rotate_left
              · (intro w hSw; go_simp; try (with_reducible rfl))
              try simp only [Act.put, List.getElem_toArray, List.getElem_cons_zero, List.getElem_cons_succ, List.setIfInBounds_toArray, List.set_cons_zero, List.set_cons_succ]
              refine wpAnyH_take (i := 2) (v := ?_) rfl (by kernel_rfl) (by kernel_rfl) (by kernel_rfl) (fun _ _ _ h => h) (Or.inl ⟨by rfl, ?_⟩) (by assumption) ?_
              rotate_left
              · (intro w hSw; go_simp; try (with_reducible rfl))
              try simp only [Act.put, List.getElem_toArray, List.getElem_cons_zero, List.getElem_cons_succ, List.setIfInBounds_toArray, List.set_cons_zero, List.set_cons_succ]
              refine wpAnyH_take (i := 3) (v := ?_) rfl (by kernel_rfl) (by kernel_rfl) (by kernel_rfl) (fun _ _ _ h => h) (Or.inl ⟨by rfl, ?_⟩) (by assumption) ?_
              rotate_left
              · (intro w hSw; have hc0 := M3.out w hSw; go_simp; try (with_reducible rfl))
              try simp only [Act.put, List.getElem_toArray, List.getElem_cons_zero, List.getElem_cons_succ, List.setIfInBounds_toArray, List.set_cons_zero, List.set_cons_succ]
              refine wpAnyH_take (i := 4) (v := ?_) rfl (by kernel_rfl) (by kernel_rfl) (by kernel_rfl) (fun _ _ _ h => h) (Or.inl ⟨by rfl, ?_⟩) (by assumption) ?_
              rotate_left
              · (intro w hSw; go_simp; try (with_reducible rfl))
              try simp only [Act.put, List.getElem_toArray, List.getElem_cons_zero, List.getElem_cons_succ, List.setIfInBounds_toArray, List.set_cons_zero, List.set_cons_succ]
              refine wpAnyH_take (i := 5) (v := ?_) rfl (by kernel_rfl) (by kernel_rfl) (by kernel_rfl) (fun _ _ _ h => h) (Or.inl ⟨by rfl, ?_⟩) (by assumption) ?_
              rotate_left
              · (intro w hSw; go_simp; try (with_reducible rfl))
              try simp only [Act.put, List.getElem_toArray, List.getElem_cons_zero, List.getElem_cons_succ, List.setIfInBounds_toArray, List.set_cons_zero, List.set_cons_succ]
              refine wpAnyH_take (i := 6) (v := ?_) rfl (by kernel_rfl) (by kernel_rfl) (by kernel_rfl) (fun _ _ _ h => h) (Or.inl ⟨by rfl, ?_⟩) (by assumption) ?_
              rotate_left
              · (intro w hSw; go_simp; try (with_reducible rfl))
              try simp only [Act.put, List.getElem_toArray, List.getElem_cons_zero, List.getElem_cons_succ, List.setIfInBounds_toArray, List.set_cons_zero, List.set_cons_succ]
              refine wpAnyH_take (i := 7) (v := ?_) rfl (by kernel_rfl) (by kernel_rfl) (by kernel_rfl) (fun _ _ _ h => h) (Or.inl ⟨by rfl, ?_⟩) (by assumption) ?_
              rotate_left
              · (intro w hSw; have hc0 := M7.out w hSw; go_simp; try (with_reducible rfl))
              try simp only [Act.put, List.getElem_toArray, List.getElem_cons_zero, List.getElem_cons_succ, List.setIfInBounds_toArray, List.set_cons_zero, List.set_cons_succ]
              refine wpAnyH_take (i := 8) (v := ?_) rfl (by kernel_rfl) (by kernel_rfl) (by kernel_rfl) (fun _ _ _ h => h) (Or.inl ⟨by rfl, ?_⟩) (by assumption) ?_
              rotate_left
              · (intro w hSw; go_simp; try (with_reducible rfl))
              try simp only [Act.put, List.getElem_toArray, List.getElem_cons_zero, List.getElem_cons_succ, List.setIfInBounds_toArray, List.set_cons_zero, List.set_cons_succ]
              refine wpAnyH_take (i := 9) (v := ?_) rfl (by kernel_rfl) (by kernel_rfl) (by kernel_rfl) (fun _ _ _ h => h) (Or.inl ⟨by rfl, ?_⟩) (by assumption) ?_
              rotate_left
              · (intro w hSw; go_simp; try (with_reducible rfl))
              try simp only [Act.put, List.getElem_toArray, List.getElem_cons_zero, List.getElem_cons_succ, List.setIfInBounds_toArray, List.set_cons_zero, List.set_cons_succ]
              refine wpAnyH_take (i := 10) (v := ?_) rfl (by kernel_rfl) (by kernel_rfl) (by kernel_rfl) (fun _ _ _ h => h) (Or.inl ⟨by rfl, ?_⟩) (by assumption) ?_
              rotate_left
              · (intro w hSw; go_simp; try (with_reducible rfl))
              try simp only [Act.put, List.getElem_toArray, List.getElem_cons_zero, List.getElem_cons_succ, List.setIfInBounds_toArray, List.set_cons_zero, List.set_cons_succ]
              refine wpAnyH_take (i := 11) (v := ?_) rfl (by kernel_rfl) (by kernel_rfl) (by kernel_rfl) (fun _ _ _ h => h) (Or.inl ⟨by rfl, ?_⟩) (by assumption) ?_
              rotate_left
              · (intro w hSw; go_simp; try (with_reducible rfl))
              try simp only [Act.put, List.getElem_toArray, List.getElem_cons_zero, List.getElem_cons_succ, List.setIfInBounds_toArray, List.set_cons_zero, List.set_cons_succ]
              refine wpAnyH_ready (rs := [12]) (by kernel_rfl) (by simp) ?_
              refine AllReadyH.one rfl rfl (fun K hK => ?_)
              refine wp_store_cc HZ2 rfl _ _ rfl rfl (vs := [.int .i64 room, .slice (some ⟨g, 0, none⟩) n0 vc]) rfl rfl rfl (fun V HV HVC => ?_)
              have HSV : Hid (S V) := Lib.hid (by rw [HV.out]; exact HSS.out _ _ hHeld)
              refine hK.out _ _ HSV.out (fun hHeld => ?_)
              clear hK K
              try simp only [Act.put]
              refine wpAnyH_take (i := 13) (v := ?_) rfl (by kernel_rfl) (by kernel_rfl) (by kernel_rfl) (fun _ _ _ h => h) (Or.inl ⟨by rfl, ?_⟩) (by assumption) ?_
              rotate_left
              · (intro w hSw; go_simp; try (with_reducible rfl))
              try simp only [Act.put, List.getElem_toArray, List.getElem_cons_zero, List.getElem_cons_succ, List.setIfInBounds_toArray, List.set_cons_zero, List.set_cons_succ]
              refine wpAnyH_done (by kernel_rfl) ?_ _
              refine NoPanic.normal ?_
              go_wp2_with fail
              refine bodyPost_ret (results_cc2 Try.results11 rfl HVC.out rfl) rfl ⟨_, n0, vc, ps, rfl, ?_, ?_⟩
              · rw [HV.out]; exact HST2.out.sets2 HT2.out HPN.out.1 _
              · rw [HV.out]; exact grown_sets HG2.out (by have := HW5.out; omega) _
end Go.Proofs.Ytjmmedpkcedngaa

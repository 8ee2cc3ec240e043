/- Texts that belong together, one behind the other: MatOpen, MatPack, Numbers, Digits, RefNums, MatBnd, MatRecW. -/
import Derived.Test.YtmecdhlehekdeaaB5
import Derived.OpenShut
import Derived.Lib.ItoaLen
/- Queries that came in, opened (layer 11). -/
namespace Go.Proofs.Ytmecdhlehekdeaa
open Go.ChangeShapes Go.WideShapes Go.ChangeAt Go.RowKit
set_option linter.unusedVariables false
set_option maxRecDepth 20000

theorem trod_struct4M {H : Type} {enc : TypeId × Value → H} {W : World} {spare : Nat → Bool} {t : TypeId} {f0 f1 f2 f3 : Field} {fuel : Nat} {cs : List Value} {x : DataW H × List MemPlace} (ht : Try.prog.underlying t = some (.struct #[f0, f1, f2, f3])) (h : DataW.trod enc Try.prog W 0 spare true fuel t cs = some x) :
    ∃ y0 y1 y2 y3 n, x.1 = .agg [y0.1, y1.1, y2.1, y3.1] ∧ DataW.trod enc Try.prog W 0 spare true n f0.type ((cs.drop f0.offset).take (Try.prog.cellsOf f0.type)) = some y0 ∧ DataW.trod enc Try.prog W 0 spare true n f1.type ((cs.drop f1.offset).take (Try.prog.cellsOf f1.type)) = some y1 ∧ DataW.trod enc Try.prog W 0 spare true n f2.type ((cs.drop f2.offset).take (Try.prog.cellsOf f2.type)) = some y2 ∧ DataW.trod enc Try.prog W 0 spare true n f3.type ((cs.drop f3.offset).take (Try.prog.cellsOf f3.type)) = some y3 := by
  obtain ⟨xs, n, _, rfl, hl, hlen, hf⟩ := DataW.trod_struct ht h
  match xs, hlen with
  | [y0, y1, y2, y3], _ => exact ⟨y0, y1, y2, y3, n, by simp, by simpa using hf 0 f0 rfl, by simpa using hf 1 f1 rfl, by simpa using hf 2 f2 rfl, by simpa using hf 3 f3 rfl⟩
/-- What is known of a query that came in. -/
structure QryGot (q : Qry) (k : Nat) : Prop where
  id : (Lit.int .i64 q.id).wf = true
  ty : (Lit.int .i64 q.ty).wf = true
  sv : (Lit.int .i64 q.sv).wf = true
  nm : q.nm.size ≤ k
  nx : q.nm.size ≤ maxLen
theorem QryGot.wider {q : Qry} {k k' : Nat} (h : QryGot q k) (hk : k ≤ k') : QryGot q k' := ⟨h.id, h.ty, h.sv, Nat.le_trans h.nm hk, h.nx⟩
theorem open_qry {H : Type} {enc : TypeId × Value → H} {W : World} {base : Nat} {spare : Nat → Bool} {v : Value} {d : DataW H} {ps : List MemPlace}
    (hok : Value.okWide Try.prog W .any base 23 v) (h : DataW.Trod enc Try.prog W 0 spare true 23 v d ps) :
    ∃ q : Qry, v = qryV q ∧ QryGot q (Rows.uptoBulk d) := by
  have hs := Try.underlying23
  obtain ⟨cs, rfl, hsz, _⟩ : ∃ cs, v = .agg cs ∧ cs.size = Try.prog.cellsOf 23 ∧ Row.okWide Try.prog W .any base 23 cs := by
    simpa [Value.okWide, hs] using hok
  rw [show Try.prog.cellsOf 23 = 4 by kernel_rfl] at hsz
  obtain ⟨fuel, hf⟩ := h
  obtain ⟨y0, y1, y2, y3, n, hx, h0, h1, h2, h3⟩ := trod_struct4M hs hf
  have e0 : (Value.cells (.agg cs)).toList = cs.toList := rfl
  rw [e0] at h0 h1 h2 h3
  simp only [cells_int, cells_str] at h0 h1 h2 h3
  obtain ⟨i, e1, _, s1⟩ := DataW.trod_int Try.underlying3 h0
  obtain ⟨nm, e2, z2, s2⟩ := DataW.trod_string Try.underlying9 h1
  obtain ⟨ty, e3, _, s3⟩ := DataW.trod_int Try.underlying3 h2
  obtain ⟨sv, e4, _, s4⟩ := DataW.trod_int Try.underlying3 h3
  have hx : d = .agg [y0.1, y1.1, y2.1, y3.1] := hx
  refine ⟨⟨i, nm, ty, sv⟩, ?_, ⟨s1, s3, s4, ?_, s2⟩⟩
  · unfold qryV
    congr 1
    apply Array.ext'
    have h6 : cs.toList.length = 4 := by simpa using hsz
    generalize cs.toList = l at *
    match l, h6 with
    | [u0, u1, u2, u3], _ =>
      simp at e1 e2 e3 e4
      rw [e1, e2, e3, e4]
  · rw [hx, z2]
    exact Nat.le_trans (bulk_str nm) (bulk_agg (by simp))
theorem RecsIn.wider2 {W : World} {a : Option Addr} {len cap : Nat} {D : List Rec} {k k' : Nat} (h : RecsIn W a len cap D k) (hk : k ≤ k') : RecsIn W a len cap D k' :=
  ⟨h.at0, h.len, fun r hr => ⟨Nat.le_trans (h.room r hr).1 hk, Nat.le_trans (h.room r hr).2.1 hk, Nat.le_trans (h.room r hr).2.2 hk⟩, Nat.le_trans h.few hk⟩
theorem all2_of {W : World} {a : Option Addr} {len cap : Nat} {D : List Rec} (h : RecsIn W a len cap D 1048576) : All2 D := fun r hr => ⟨Nat.le_trans (h.room r hr).1 (by decide), Nat.le_trans (h.room r hr).2.1 (by decide)⟩
theorem All2.take {D : List Rec} (h : All2 D) (n : Nat) : All2 (D.take n) := fun r hr => h r (List.mem_of_mem_take hr)
end Go.Proofs.Ytmecdhlehekdeaa
/- What the laws of layer 11 ask of Tell, laid in plain values; the law's as, the reference's Forge, the landed Tell. -/
namespace Go.Proofs.Ytmecdhlehekdeaa
open Go.RowKit
set_option linter.unusedVariables false
set_option maxRecDepth 20000
set_option linter.unusedSimpArgs false

abbrev qA (q : Qry) : Value := .agg #[.int .i64 q.id, .string q.nm, .int .i64 q.ty, .int .i64 q.sv]
abbrev mA (q : Qry) (g : Nat) (a : Option Addr) (n cap : Nat) : Value := .agg #[.int .i64 q.id, .int .i64 33152, .slice (some ⟨g, 0, none⟩) 1 1, .slice a n cap, .slice none 0 0, .slice none 0 0]
theorem pack_as (q : Qry) (W : World) : Calls Try.prog 12 #[qA q] W fun e w' => e = .returned (qA q) ∧ Below W.heap.size W w' := as11_any q W
theorem pack_fo (q : Qry) (a : Option Addr) (cap : Nat) (L : List Rec) (n : Nat) (hn : L.length = n) (W : World) (h : RecsAt W a cap L) : Calls Try.prog 13 #[qA q, .slice a n cap] W fun e w' => ∃ g, e = .returned (mA q g a n cap) ∧ RecsAt w' a cap L ∧ Below W.heap.size W w' := by
  subst hn
  refine (refForge11_any q a cap L W h).mono ?_
  rintro e w' ⟨g, e1, _, _, hr, hb⟩
  exact ⟨g, e1, hr, hb⟩
theorem pack_te (q : Qry) (a : Option Addr) (cap : Nat) (L : List Rec) (n : Nat) (hn : L.length = n) (hA : All2 L) (hnm : q.nm.size ≤ 2000000) (hl : n ≤ 900) (g : Nat) (W : World) (h : RecsAt W a cap L) : Calls Try.prog 18 #[qA q, mA q g a n cap] W (TellRet W (tellP 33152 q.nm q.ty L)) := by
  subst hn
  exact tell_any q (forgeM q L) (some ⟨g, 0, none⟩) a none none 1 cap 0 0 W h hA hnm hl
theorem RowA.isSliceN {w : World} {B : Nat} {v : Value} {D : List Ad} (h : RowA w B v D) : ∃ ad c, v = .slice ad D.length c ∧ AdsIn w ad c D := h.ads
end Go.Proofs.Ytmecdhlehekdeaa
/- Contracts of text.digit and text.Number: the number of a text's digits. -/
namespace Go.Proofs.Ytmecdhlehekdeaa
open Go.RowKit
set_option linter.unusedVariables false
set_option maxRecDepth 20000

/-- A digit's number; 16: it is none. -/
def digC (c : Nat) : Nat := if 48 ≤ c ∧ c ≤ 57 then c - 48 else if 97 ≤ c ∧ c ≤ 102 then c - 87 else if 65 ≤ c ∧ c ≤ 70 then c - 55 else 16
theorem digC_le (c : Nat) : digC c ≤ 16 := by unfold digC; split; · omega
                                              split; · omega
                                              split <;> omega
/-- The byte at a place, or 0. -/
def byteOf (s : ByteArray) (k : Nat) : Nat := (s.data.toList.getD k 0).toNat
theorem byteOf_eq (s : ByteArray) (k : Nat) (h : k < s.size) : byteOf s k = (s[k]).toNat := by
  unfold byteOf
  rw [List.getD_eq_getElem?_getD, List.getElem?_eq_getElem (by simpa using h)]; rfl
def most : Nat := 1099511627776
/-- The number of the first k digits, if there is one. -/
def numTo (s : ByteArray) (b : Nat) : Nat → Option Nat
  | 0 => some 0
  | k + 1 => match numTo s b k with
    | none => none
    | some n => if b ≤ digC (byteOf s k) then none else if most < n * b + digC (byteOf s k) then none else some (n * b + digC (byteOf s k))
def numB (s : ByteArray) (b : Nat) : Option Nat := if s.size = 0 then none else numTo s b s.size
theorem numTo_none (s : ByteArray) (b k : Nat) (h : numTo s b k = none) : ∀ m, numTo s b (k + m) = none
  | 0 => h
  | m + 1 => by rw [← Nat.add_assoc, numTo, numTo_none s b k h m]
theorem numTo_le (s : ByteArray) (b : Nat) : ∀ k n, numTo s b k = some n → n ≤ most
  | 0, n, h => by simp [numTo] at h; omega
  | k + 1, n, h => by
    rw [numTo] at h
    cases hk : numTo s b k with
    | none => rw [hk] at h; cases h
    | some m =>
      rw [hk] at h
      simp only at h
      split at h
      · cases h
      · split at h
        · cases h
        · have := Option.some.inj h; omega
theorem numTo_step {s : ByteArray} {b k n : Nat} (h : numTo s b k = some n) (hk : k < s.size) :
    numTo s b (k + 1) = if b ≤ digC (s[k]).toNat then none else if most < n * b + digC (s[k]).toNat then none else some (n * b + digC (s[k]).toNat) := by
  rw [numTo, h, byteOf_eq s k hk]
theorem numB_dead {s : ByteArray} {b k : Nat} (hk : k < s.size) (h : numTo s b (k + 1) = none) : numB s b = none := by
  unfold numB
  rw [if_neg (by omega)]
  have := numTo_none s b (k + 1) h (s.size - (k + 1))
  rwa [show k + 1 + (s.size - (k + 1)) = s.size by omega] at this
/-- What Number answers. -/
def numRet (o : Option Nat) : Value := .tuple #[.int .i64 ((o.getD 0 : Nat) : Int), .bool o.isSome]

theorem num_ret {o p : Option Nat} (h : o = p) : Ending.returned (numRet o) = .returned (numRet p) := by rw [h]

end Go.Proofs.Ytmecdhlehekdeaa
/- The digits of a number in a base, as the statement TextBases lays them, are read as the number; and the contract of the reference's Around. -/
namespace Go.Proofs.Ytmecdhlehekdeaa
open Go.RowKit
set_option linter.unusedVariables false
set_option maxRecDepth 20000

def hexd (d : Nat) : UInt8 := if d < 10 then UInt8.ofNat (48 + d) else UInt8.ofNat (87 + d)
theorem digC_hexd (d : Nat) (h : d < 16) : digC (hexd d).toNat = d := by
  unfold hexd
  by_cases h1 : d < 10
  · rw [if_pos h1, UInt8.toNat_ofNat', Nat.mod_eq_of_lt (by omega)]
    unfold digC
    rw [if_pos (by omega)]
    omega
  · rw [if_neg h1, UInt8.toNat_ofNat', Nat.mod_eq_of_lt (by omega)]
    unfold digC
    rw [if_neg (by omega), if_pos (by omega)]
    omega
/-- The sixteen digits. -/
def hexs : ByteArray := { data := #[48, 49, 50, 51, 52, 53, 54, 55, 56, 57, 97, 98, 99, 100, 101, 102] }
theorem hexs_at (d : Nat) (h : d < 16) : hexs.extract d (d + 1) = { data := #[hexd d] } := by
  have hd : d = 0 ∨ d = 1 ∨ d = 2 ∨ d = 3 ∨ d = 4 ∨ d = 5 ∨ d = 6 ∨ d = 7 ∨ d = 8 ∨ d = 9 ∨ d = 10 ∨ d = 11 ∨ d = 12 ∨ d = 13 ∨ d = 14 ∨ d = 15 := by omega
  rcases hd with rfl | rfl | rfl | rfl | rfl | rfl | rfl | rfl | rfl | rfl | rfl | rfl | rfl | rfl | rfl | rfl <;> decide
/-- The lowest i digits of n. -/
def dstr (n b : Nat) : Nat → ByteArray
  | 0 => { data := #[] }
  | i + 1 => hexs.extract (n / b ^ i % b) (n / b ^ i % b + 1) ++ dstr n b i
theorem dstr_list (n b : Nat) (hb0 : 0 < b) (hb : b ≤ 16) (i : Nat) : (dstr n b (i + 1)).data.toList = hexd (n / b ^ i % b) :: (dstr n b i).data.toList := by
  have := Nat.mod_lt (n / b ^ i) hb0
  rw [dstr, hexs_at _ (by omega), data_append]
  rfl
theorem dstr_size (n b : Nat) (hb0 : 0 < b) (hb : b ≤ 16) : ∀ i, (dstr n b i).size = i
  | 0 => rfl
  | i + 1 => by
    have h := congrArg List.length (dstr_list n b hb0 hb i)
    have ih := dstr_size n b hb0 hb i
    simp at h
    omega
theorem dstr_byte (n b : Nat) (hb0 : 0 < b) (hb : b ≤ 16) : ∀ i k, k < i → byteOf (dstr n b i) k = (hexd (n / b ^ (i - 1 - k) % b)).toNat
  | 0, k, h => by omega
  | i + 1, 0, h => by
    unfold byteOf
    rw [dstr_list n b hb0 hb i]
    simp
  | i + 1, k + 1, h => by
    have ih := dstr_byte n b hb0 hb i k (by omega)
    unfold byteOf at ih ⊢
    rw [dstr_list n b hb0 hb i, show i + 1 - 1 - (k + 1) = i - 1 - k by omega, ← ih]
    rfl
theorem dstr_numTo (n b : Nat) (hb0 : 2 ≤ b) (hb : b ≤ 16) (hn : n ≤ most) (hlt : n < b ^ 14) : ∀ k, k ≤ 14 → numTo (dstr n b 14) b k = some (n / b ^ (14 - k))
  | 0, _ => by rw [numTo, Nat.sub_zero, Nat.div_eq_of_lt hlt]
  | k + 1, h => by
    rw [numTo, dstr_numTo n b hb0 hb hn hlt k (by omega), dstr_byte n b (by omega) hb 14 k (by omega), show 14 - 1 - k = 13 - k by omega, show 14 - (k + 1) = 13 - k by omega]
    have hm : n / b ^ (13 - k) % b < b := Nat.mod_lt _ (by omega)
    rw [digC_hexd _ (by omega)]
    have e : n / b ^ (14 - k) * b + n / b ^ (13 - k) % b = n / b ^ (13 - k) := by
      rw [show 14 - k = (13 - k) + 1 by omega, Nat.pow_succ, ← Nat.div_div_eq_div_mul, Nat.mul_comm]
      exact Nat.div_add_mod _ _
    have hle : n / b ^ (13 - k) ≤ n := Nat.div_le_self _ _
    simp only [e]
    rw [if_neg (by omega), if_neg (by omega)]
theorem dstr_num (n b : Nat) (hb0 : 2 ≤ b) (hb : b ≤ 16) (hn : n ≤ most) (hlt : n < b ^ 14) : numB (dstr n b 14) b = some n := by
  unfold numB
  rw [dstr_size n b (by omega) hb, if_neg (by omega), dstr_numTo n b hb0 hb hn hlt 14 (Nat.le_refl _)]
  simp
theorem num_bad (s : ByteArray) (b j : Nat) (hj : j < s.size) (h : b ≤ digC (byteOf s j)) : numB s b = none := by
  apply numB_dead hj
  rw [numTo]
  cases numTo s b j with
  | none => rfl
  | some n => simp only [if_pos h]
theorem num_behind (s X : ByteArray) (b : Nat) (hb : b ≤ 16) (hX : X.data.toList = [103]) : numB (s ++ X) b = none := by
  apply num_bad _ _ s.size
  · rw [ByteArray.size_append]
    have : X.data.toList.length = 1 := by rw [hX]; rfl
    simp at this
    omega
  · have e : byteOf (s ++ X) s.size = 103 := by
      unfold byteOf
      rw [data_append, hX, List.getD_eq_getElem?_getD, List.getElem?_append_right (by simp)]
      simp
    rw [e]
    have : digC 103 = 16 := by decide
    omega
theorem num_ahead (s X : ByteArray) (b : Nat) (hb : b ≤ 16) (hX : X.data.toList = [45]) : numB (X ++ s) b = none := by
  apply num_bad _ _ 0
  · rw [ByteArray.size_append]
    have : X.data.toList.length = 1 := by rw [hX]; rfl
    simp at this
    omega
  · have e : byteOf (X ++ s) 0 = 45 := by
      unfold byteOf
      rw [data_append, hX]
      rfl
    rw [e]
    have : digC 45 = 16 := by decide
    omega

theorem numRet_some (n : Nat) : numRet (some n) = .tuple #[.int .i64 (n : Int), .bool true] := rfl
theorem numRet_none : numRet none = .tuple #[.int .i64 0, .bool false] := rfl

/-- A number, from 0 on, modulo q. -/
def aroundN (n : Int) (q : Nat) : Nat := (if n < 0 then -(n + 1) else n).toNat % q
theorem aroundN_lt (n : Int) (q : Nat) (h : 0 < q) : aroundN n q < q := Nat.mod_lt _ h

set_option maxHeartbeats 400000 in
theorem around_any (n : Int) (q : Nat) (w : World) (hn : (Lit.int .i64 n).wf = true) (hq : 0 < q) (hq2 : q ≤ 4611686018427387904) :
    Calls Try.prog 14 #[.int .i64 n, .int .i64 (q : Int)] w fun e w' => e = .returned (.int .i64 ((aroundN n q : Nat) : Int)) ∧ w = w' := by
  have hb := bounds_i64 hn
  by_cases h : n < 0
  · obtain ⟨m, hm⟩ : ∃ m : Nat, -(n + 1) = (m : Int) := ⟨(-(n + 1)).toNat, by omega⟩
    have e : aroundN n q = m % q := by unfold aroundN; rw [if_pos h, hm]; rfl
    rw [e]
    go_enter Try.func14, Try.ntmps14
    go_wp2
    go_ret
    exact ⟨by first | rfl | simp, rfl⟩
  · obtain ⟨m, rfl⟩ : ∃ m : Nat, n = (m : Int) := ⟨n.toNat, by omega⟩
    have e : aroundN m q = m % q := by unfold aroundN; rw [if_neg h]; rfl
    rw [e]
    go_enter Try.func14, Try.ntmps14
    go_wp2
    go_ret
    exact ⟨by first | rfl | simp, rfl⟩
end Go.Proofs.Ytmecdhlehekdeaa
/- Contracts of the reference's digit, Number and Decimal: a number's decimal digits, and how they are read back. -/
namespace Go.Proofs.Ytmecdhlehekdeaa
open Go.RowKit
set_option linter.unusedVariables false
set_option maxRecDepth 20000

/-- A digit's number as the reference tells it; -1: it is none. -/
def digI (c : Nat) : Int := if digC c < 16 then (digC c : Int) else -1

/-- Texts of lists of bytes, one behind the other. -/
theorem mk_append (l m : List UInt8) : (⟨l.toArray⟩ : ByteArray) ++ ⟨m.toArray⟩ = ⟨(l ++ m).toArray⟩ := by
  apply bytes_ext
  rw [data_append]
theorem dec_length (u : Nat) (h : u ≤ 9223372036854775807) : (Lib.decDigits u).length ≤ 21 := by
  have := Lib.itoa_length_le (u : Int) (by omega) (by omega)
  unfold Lib.itoa at this
  rw [if_neg (by omega)] at this
  simpa using this

set_option maxHeartbeats 1000000 in
theorem refDecimal_nat (u : Nat) : ∀ (w : World), u ≤ 9223372036854775807 →
    Calls Try.prog 26 #[.int .i64 (u : Int)] w fun e w' => e = .returned (.string ⟨(Lib.decDigits u).toArray⟩) ∧ Below w.heap.size w w' := by
  induction u using Nat.strongRecOn with
  | _ u ih =>
    intro w hu
    have hone := one_byte (48 + u % 10) (by omega) w
    have e48 : ((48 + u % 10 : Nat) : Int) = 48 + (u : Int) % 10 := by omega
    rw [e48] at hone
    clear e48
    by_cases h10 : u < 10
    · have e : Lib.decDigits u = [UInt8.ofNat (48 + u % 10)] := by rw [Lib.decDigits, dif_pos h10, Nat.mod_eq_of_lt h10]
      rw [e]
      clear e ih
      generalize UInt8.ofNat (48 + u % 10) = c at hone ⊢
      go_enter Try.func26, Try.ntmps26
      go_wp2_with fail
      go_ret
      exact ⟨rfl, (Below.refl _ _).alloc (Nat.le_refl _) _⟩
    · have e : Lib.decDigits u = Lib.decDigits (u / 10) ++ [UInt8.ofNat (48 + u % 10)] := by rw [Lib.decDigits, dif_neg h10]
      have hlen := dec_length (u / 10) (by omega)
      have e10 : ((u / 10 : Nat) : Int) = (u : Int) / 10 := by omega
      have HI : Hid (∀ w, Calls Try.prog 26 #[.int .i64 ((u : Int) / 10)] w fun e w' => e = .returned (.string ⟨(Lib.decDigits (u / 10)).toArray⟩) ∧ Below w.heap.size w w') := by
        refine Lib.hid fun w => ?_
        have := ih (u / 10) (by omega) w (by omega)
        rw [e10] at this
        exact this
      rw [e, ← mk_append]
      clear e ih e10
      have hsz : (⟨(Lib.decDigits (u / 10)).toArray⟩ : ByteArray).size ≤ 21 := hlen
      generalize (⟨(Lib.decDigits (u / 10)).toArray⟩ : ByteArray) = t at *
      generalize UInt8.ofNat (48 + u % 10) = c at hone ⊢
      go_enter Try.func26, Try.ntmps26
      go_wp2_with fail
      refine (HI.out _).mono ?_
      rintro e w1 ⟨rfl, hb1⟩
      go_wp2_with fail
      go_ret
      exact ⟨rfl, ((Below.refl _ _).alloc (Nat.le_refl _) _).trans (hb1.mono (by simp))⟩

theorem itoa_min : (Lib.itoa (-9223372036854775808)) = [45, 57, 50, 50, 51, 51, 55, 50, 48, 51, 54, 56, 53, 52, 55, 55, 53, 56, 48, 56] := by
  unfold Lib.itoa
  rw [if_pos (by decide)]
  simp [Lib.decDigits]

set_option maxHeartbeats 1000000 in
theorem refDecimal_any (n : Int) (w : World) (h0 : -9223372036854775808 ≤ n) (h1 : n ≤ 9223372036854775807) :
    Calls Try.prog 26 #[.int .i64 n] w fun e w' => e = .returned (.string ⟨(Lib.itoa n).toArray⟩) ∧ Below w.heap.size w w' := by
  by_cases hn : 0 ≤ n
  · obtain ⟨u, rfl⟩ : ∃ u : Nat, n = (u : Int) := ⟨n.toNat, by omega⟩
    have e : Lib.itoa (u : Int) = Lib.decDigits u := by unfold Lib.itoa; rw [if_neg (by omega)]; rfl
    rw [e]
    exact refDecimal_nat u w (by omega)
  · by_cases hm : n < -9223372036854775807
    · obtain rfl : n = -9223372036854775808 := by omega
      rw [itoa_min]
      go_enter Try.func26, Try.ntmps26
      go_wp2_with fail
      go_ret
      exact ⟨rfl, Below.refl _ _⟩
    · obtain ⟨u, hu⟩ : ∃ u : Nat, -n = (u : Int) := ⟨(-n).toNat, by omega⟩
      have e : Lib.itoa n = [45] ++ Lib.decDigits u := by
        unfold Lib.itoa
        rw [if_pos (by omega), show n.natAbs = u by omega]
        rfl
      have hlen := dec_length u (by omega)
      rw [e, ← mk_append]
      have HI : Hid (∀ w, Calls Try.prog 26 #[.int .i64 (-n)] w fun e w' => e = .returned (.string ⟨(Lib.decDigits u).toArray⟩) ∧ Below w.heap.size w w') := by
        refine Lib.hid fun w => ?_
        rw [hu]
        exact refDecimal_nat u w (by omega)
      clear e hu
      have hsz : (⟨(Lib.decDigits u).toArray⟩ : ByteArray).size ≤ 21 := hlen
      generalize (⟨(Lib.decDigits u).toArray⟩ : ByteArray) = t at *
      go_enter Try.func26, Try.ntmps26
      go_wp2_with fail
      refine (HI.out _).mono ?_
      rintro e w1 ⟨rfl, hb1⟩
      go_wp2_with fail
      go_ret
      exact ⟨rfl, hb1⟩

theorem byteOf_left (s X : ByteArray) (k : Nat) (h : k < s.size) : byteOf (s ++ X) k = byteOf s k := by
  unfold byteOf
  rw [data_append]
  simp only [List.getD_eq_getElem?_getD]
  rw [List.getElem?_append_left (by simpa using h)]
theorem numTo_left (s X : ByteArray) (b : Nat) : ∀ k, k ≤ s.size → numTo (s ++ X) b k = numTo s b k
  | 0, _ => rfl
  | k + 1, h => by rw [numTo, numTo, numTo_left s X b k (by omega), byteOf_left s X k (by omega)]
theorem digC_dec (d : Nat) (h : d < 10) : digC (UInt8.ofNat (48 + d)).toNat = d := by
  rw [UInt8.toNat_ofNat', Nat.mod_eq_of_lt (by omega)]
  unfold digC
  rw [if_pos (by omega)]
  omega
/-- The digits of a number, from 0 on, are read as the number, if it is not too great. -/
theorem dec_numTo (u : Nat) : numTo ⟨(Lib.decDigits u).toArray⟩ 10 (Lib.decDigits u).length = if u ≤ most then some u else none := by
  induction u using Nat.strongRecOn with
  | _ u ih =>
    by_cases h10 : u < 10
    · have e : Lib.decDigits u = [UInt8.ofNat (48 + u)] := by rw [Lib.decDigits, dif_pos h10]
      rw [e, if_pos (by unfold most; omega)]
      have hb : byteOf ⟨[UInt8.ofNat (48 + u)].toArray⟩ 0 = (UInt8.ofNat (48 + u)).toNat := rfl
      show numTo _ 10 (0 + 1) = _
      rw [numTo, numTo, hb, digC_dec u h10]
      simp only []
      rw [if_neg (by omega), if_neg (by unfold most; omega)]
      simp
    · have e : Lib.decDigits u = Lib.decDigits (u / 10) ++ [UInt8.ofNat (48 + u % 10)] := by rw [Lib.decDigits, dif_neg h10]
      have hi := ih (u / 10) (by omega)
      rw [e, ← mk_append, List.length_append, List.length_singleton]
      have hs : (⟨(Lib.decDigits (u / 10)).toArray⟩ : ByteArray).size = (Lib.decDigits (u / 10)).length := rfl
      have hb : byteOf ((⟨(Lib.decDigits (u / 10)).toArray⟩ : ByteArray) ++ ⟨[UInt8.ofNat (48 + u % 10)].toArray⟩) (Lib.decDigits (u / 10)).length = (UInt8.ofNat (48 + u % 10)).toNat := by
        unfold byteOf
        rw [data_append, List.getD_eq_getElem?_getD, List.getElem?_append_right (by simp)]
        simp
      rw [numTo, numTo_left _ _ _ _ (by rw [hs]; exact Nat.le_refl _), hi, hb, digC_dec _ (by omega)]
      by_cases hm : u / 10 ≤ most
      · rw [if_pos hm]
        simp only []
        rw [if_neg (by omega), show u / 10 * 10 + u % 10 = u by omega]
        by_cases h2 : most < u
        · rw [if_pos h2, if_neg (by omega)]
        · rw [if_neg h2, if_pos (by omega)]
      · rw [if_neg hm, if_neg (by omega)]
theorem dec_pos (u : Nat) : 0 < (Lib.decDigits u).length := by
  rw [Lib.decDigits]
  split <;> simp
theorem num_bad0 (s : ByteArray) (b j : Nat) (hj : j < s.size) (h : b ≤ digC (byteOf s j)) : numB s b = none := by
  apply numB_dead hj
  rw [numTo]
  cases numTo s b j with
  | none => rfl
  | some n => simp only [if_pos h]
/-- What Number answers of a number's digits. -/
theorem itoa_num (n : Int) : numB ⟨(Lib.itoa n).toArray⟩ 10 = if 0 ≤ n ∧ n ≤ 1099511627776 then some n.toNat else none := by
  by_cases hn : 0 ≤ n
  · obtain ⟨u, rfl⟩ : ∃ u : Nat, n = (u : Int) := ⟨n.toNat, by omega⟩
    have e : Lib.itoa (u : Int) = Lib.decDigits u := by unfold Lib.itoa; rw [if_neg (by omega)]; rfl
    rw [e]
    unfold numB
    have hs : (⟨(Lib.decDigits u).toArray⟩ : ByteArray).size = (Lib.decDigits u).length := rfl
    have hp := dec_pos u
    rw [hs, if_neg (by omega), dec_numTo]
    by_cases h : u ≤ most
    · rw [if_pos h, if_pos (by unfold most at h; omega)]; simp
    · rw [if_neg h, if_neg (by unfold most at h; omega)]
  · rw [if_neg (by omega)]
    have e : Lib.itoa n = 45 :: Lib.decDigits n.natAbs := by unfold Lib.itoa; rw [if_pos (by omega)]
    rw [e]
    apply num_bad0 _ _ 0
    · show 0 < (45 :: Lib.decDigits n.natAbs).length
      simp
    · show 10 ≤ digC 45
      decide
end Go.Proofs.Ytmecdhlehekdeaa
/- The records of the law MatchBound, and what is told of them: plain. -/
namespace Go.Proofs.Ytmecdhlehekdeaa
open Go.RowKit
set_option linter.unusedVariables false
set_option maxRecDepth 20000

def decB (k : Nat) : ByteArray := ⟨(Lib.decDigits k).toArray⟩
def recB (T k : Nat) : Rec := ⟨decB k, 5, 1, (T : Int) + (k : Int), 0, List.replicate 16 0, decB (k + 1), ⟨#[]⟩⟩
def recE (N : Nat) : Rec := ⟨decB N, 1, 1, 5000, 4, List.replicate 16 0, ⟨#[]⟩, ⟨#[]⟩⟩
def bndP (T k : Nat) : List Rec := (List.range k).map (recB T)
def bndD (T N : Nat) : List Rec := bndP T N ++ [recE N]
theorem bndP_succ (T k : Nat) : bndP T (k + 1) = bndP T k ++ [recB T k] := by simp [bndP, List.range_succ]
theorem dec_like : ∀ i, i < 23 → ∀ k, k < 23 → likeB (decB i) (decB k) = decide (i = k) := by
  have h : (List.range 23).all (fun i => (List.range 23).all fun k => likeB (decB i) (decB k) == decide (i = k)) = true := by kernel_rfl
  intro i hi k hk
  have h1 := List.all_eq_true.1 h i (List.mem_range.2 hi)
  have h2 := List.all_eq_true.1 h1 k (List.mem_range.2 hk)
  exact eq_of_beq h2
theorem dec_size : ∀ i, i < 23 → (decB i).size ≤ 2 := by
  have h : (List.range 23).all (fun i => decide ((decB i).size ≤ 2)) = true := by kernel_rfl
  intro i hi
  exact of_decide_eq_true (List.all_eq_true.1 h i (List.mem_range.2 hi))
theorem isB (T i k : Nat) (hi : i < 22) (hk : k < 23) : isRec (decB k) 5 (recB T i) = decide (i = k) := by
  have h := isRec_is (nm := decB k) (kd := 5) (r := recB T i) rfl rfl
  rw [h]
  exact dec_like i (by omega) k hk
theorem bnd_next {T N k : Nat} (hN : N < 22) (hk : k < N) : nextR (bndD T N) (decB k) = some (recB T k) := by
  unfold nextR bndD bndP
  rw [List.find?_append, List.find?_map]
  have : (List.range N).find? ((isRec (decB k) 5) ∘ recB T) = some k := by
    rw [List.find?_range_eq_some]
    refine ⟨by simp [isB T k k (by omega) (by omega)], List.mem_range.2 hk, fun j hj => ?_⟩
    simp [isB T j k (by omega) (by omega)]
    omega
  rw [this]
  rfl
theorem bnd_end {T N : Nat} (hN : N < 22) : nextR (bndD T N) (decB N) = none := by
  unfold nextR bndD bndP
  rw [List.find?_eq_none]
  intro r hr
  rcases List.mem_append.1 hr with hr | hr
  · obtain ⟨i, hi, rfl⟩ := List.mem_map.1 hr
    have := List.mem_range.1 hi
    simp [isB T i N (by omega) (by omega)]
    omega
  · rw [List.mem_singleton.1 hr]
    simp [isRec, recE]
theorem bnd_chain {T N : Nat} (hN : N < 22) : ∀ (m k : Nat) (t : Int), k ≤ N → N - k ≤ m → (chainP (bndD T N) m (decB k) t).2.2 = true ∧ (chainP (bndD T N) m (decB k) t).1.length = N - k + 1 ∧ lastB (chainP (bndD T N) m (decB k) t).1 = decB N ∧ (chainP (bndD T N) m (decB k) t).2.1 = if k < N then min t ((T : Int) + (k : Int)) else t := by
  intro m
  induction m with
  | zero =>
    intro k t hk hm
    obtain rfl : k = N := by omega
    rw [chain_none (bnd_end hN)]
    refine ⟨rfl, by simp, rfl, by simp⟩
  | succ m ih =>
    intro k t hk hm
    by_cases h : k = N
    · subst h
      rw [chain_none (bnd_end hN)]
      refine ⟨rfl, by simp, rfl, by simp⟩
    · have hkN : k < N := by omega
      rw [chain_succ (bnd_next hN hkN)]
      obtain ⟨h1, h2, h3, h4⟩ := ih (k + 1) (min t ((T : Int) + (k : Int))) (by omega) (by omega)
      have e1 : (recB T k).tg = decB (k + 1) := rfl
      have e2 : (recB T k).ttl = (T : Int) + (k : Int) := rfl
      rw [e1, e2]
      refine ⟨h1, by simp only [List.length_cons, h2]; omega, ?_, ?_⟩
      · obtain ⟨l, e, _⟩ := chain_pos (bndD T N) m (decB (k + 1)) (min t ((T : Int) + (k : Int)))
        rw [← h3]
        show lastB (_ :: _) = _
        rw [e]
        simp [lastB]
      · show (chainP (bndD T N) m (decB (k + 1)) (min t ((T : Int) + (k : Int)))).2.1 = _
        rw [h4, if_pos hkN]
        split
        · push_cast; omega
        · rfl
theorem bnd_long {T N : Nat} (hN : N < 22) : ∀ (m k : Nat) (t : Int), k ≤ N → m < N - k → (chainP (bndD T N) m (decB k) t).2.2 = false := by
  intro m
  induction m with
  | zero =>
    intro k t hk hm
    rw [chain_zero (bnd_next hN (by omega))]
  | succ m ih =>
    intro k t hk hm
    rw [chain_succ (bnd_next hN (by omega))]
    exact ih (k + 1) _ (by omega) (by omega)
theorem bnd_filter {T N : Nat} (hN : N < 22) : (bndD T N).filter (isRec (decB N) 1) = [recE N] := by
  unfold bndD
  rw [List.filter_append]
  have h1 : (bndP T N).filter (isRec (decB N) 1) = [] := by
    rw [List.filter_eq_nil_iff]
    intro r hr
    obtain ⟨i, _, rfl⟩ := List.mem_map.1 hr
    simp [isRec, recB]
  have h2 : isRec (decB N) 1 (recE N) = true := by
    have h := isRec_is (nm := decB N) (kd := 1) (r := recE N) rfl rfl
    rw [h]
    rw [show (recE N).name = decB N from rfl, dec_like N (by omega) N (by omega)]
    simp
  rw [h1, List.nil_append, List.filter_cons_of_pos h2]
  rfl
theorem bnd_told {T N : Nat} (hN : N < 21) (hT : T < 1000) : tellP 33152 (decB 0) 1 (bndD T N) = if N ≤ 8 then ⟨0, [(4, List.replicate 16 0)], if N = 0 then 5000 else (T : Int), ⟨#[]⟩, N⟩ else errT 3 := by
  have hb : bitS 33152 0 4 = 0 := by kernel_rfl
  unfold tellP
  rw [hb, if_neg (by decide), if_neg (by decide)]
  by_cases h8 : N ≤ 8
  · obtain ⟨h1, h2, h3, h4⟩ := bnd_chain (T := T) (by omega : N < 22) 8 0 604800 (Nat.zero_le _) (by omega)
    simp only
    rw [if_pos h1, if_pos h8, h3, h4, bnd_filter (by omega)]
    unfold endT
    rw [tell_cons]
    simp only [tellAll, List.foldl_nil, tellStep, recE, List.not_mem_nil, if_false, List.nil_append]
    rw [if_neg (by simp), h2]
    congr 1
    by_cases h0 : N = 0
    · subst h0; simp; decide
    · rw [if_pos (by omega), if_neg h0]; simp; omega
  · simp only
    rw [if_neg (by rw [bnd_long (by omega) 8 0 604800 (Nat.zero_le _) (by omega)]; simp), if_neg h8]
theorem bnd_all {T N : Nat} (hN : N < 21) : All2 (bndD T N) := by
  intro r hr
  rcases List.mem_append.1 hr with hr | hr
  · obtain ⟨i, hi, rfl⟩ := List.mem_map.1 hr
    have := List.mem_range.1 hi
    have h1 := dec_size i (by omega)
    have h2 := dec_size (i + 1) (by omega)
    exact ⟨by show (decB i).size ≤ _; omega, by show (decB (i + 1)).size ≤ _; omega⟩
  · rw [List.mem_singleton.1 hr]
    have h1 := dec_size N (by omega)
    exact ⟨by show (decB N).size ≤ _; omega, by show 0 ≤ _; omega⟩
theorem bnd_fit {T N : Nat} (hN : N < 21) (hT : T < 1000) : ∀ r ∈ bndD T N, Fit r := by
  intro r hr
  rcases List.mem_append.1 hr with hr | hr
  · obtain ⟨i, hi, rfl⟩ := List.mem_map.1 hr
    have := List.mem_range.1 hi
    have h1 := dec_size i (by omega)
    have h2 := dec_size (i + 1) (by omega)
    exact ⟨rfl, (fun x hx => by rw [(List.mem_replicate.1 hx).2]; decide), (by decide : (Lit.int .i64 5).wf = true), (by decide : (Lit.int .i64 1).wf = true), (WalkArith.wf_i64 ⟨by omega, by omega⟩ : (Lit.int .i64 ((T : Int) + (i : Int))).wf = true), (by decide : (Lit.int .i64 0).wf = true), by show (decB i).size ≤ maxLen; unfold maxLen; omega, by show (decB (i + 1)).size ≤ maxLen; unfold maxLen; omega, Nat.zero_le _⟩
  · rw [List.mem_singleton.1 hr]
    have h1 := dec_size N (by omega)
    exact ⟨rfl, (fun x hx => by rw [(List.mem_replicate.1 hx).2]; decide), (by decide : (Lit.int .i64 1).wf = true), (by decide : (Lit.int .i64 1).wf = true), (by decide : (Lit.int .i64 5000).wf = true), (by decide : (Lit.int .i64 4).wf = true), by show (decB N).size ≤ maxLen; unfold maxLen; omega, Nat.zero_le _, Nat.zero_le _⟩
theorem dec_any (u : Nat) (W : World) (hu : u ≤ 22) : Calls Try.prog 26 #[.int .i64 (u : Int)] W fun e w' => e = .returned (.string (decB u)) ∧ Below W.heap.size W w' := by
  have hu2 : u ≤ 9223372036854775807 := Nat.le_trans hu (by decide)
  exact refDecimal_nat u W hu2
theorem dec_any1 (u : Nat) (W : World) (hu : u + 1 ≤ 22) : Calls Try.prog 26 #[.int .i64 ((u : Int) + 1)] W fun e w' => e = .returned (.string (decB (u + 1))) ∧ Below W.heap.size W w' := dec_any (u + 1) W hu
end Go.Proofs.Ytmecdhlehekdeaa
/- Records made and appended, as operations (layer 11's laws). -/
namespace Go.Proofs.Ytmecdhlehekdeaa
open Go.RowKit
set_option linter.unusedVariables false
set_option maxRecDepth 20000

theorem wp_build_recM {op : Oper} {a : Act} {w : World} {K : Act → World → Prop} {Q : Exit → Act → World → Prop} {r : Rec} (hl : Hid (r.b.length = 16)) (x : Operand) (ho : op.op = .buildSlice 25 1 #[(0, x)])
    (hx : a.eval x = recV r) (h : K (a.put op.dst (.slice (some ⟨w.heap.size, 0, none⟩) 1 1)) (w.alloc (.cells (recL r).toArray 57))) : op.wp Try.prog a w K Q := by
  unfold Oper.wp execOp
  simp only [ho, List.map_toArray, List.map_cons, List.map_nil, hx, Sem.run_bind, run_buildR r w hl.out, Result.andThen_ok]
  exact h
theorem wp_append_recsM {op : Oper} {a : Act} {w : World} {K : Act → World → Prop} {Q : Exit → Act → World → Prop} {base : Nat} {v : Value} {D : List Rec} (hE : Hid (RowR w base v D)) (s x : Operand) (ho : op.op = .call { callee := .builtin .append, args := #[s, x], argTypes := #[25, 25] })
    (hs : a.eval s = v) {G o m c : Nat} (ys : List Rec) (hx : a.eval x = .slice (some ⟨G, o, none⟩) m c) (hm : Hid (m = ys.length)) (hr : Hid (w.rangeAt G o (flatR ys))) (hy : Hid (All16 ys)) (hle : Hid (D.length + ys.length ≤ 100000)) (hbase : Hid (base ≤ w.heap.size))
    (h : ∀ v' w', Hid (RowR w' base v' (D ++ ys)) → Hid (w.grownBy w' v.ownBlock) → Hid (v'.ownBlock = v.ownBlock ∨ v'.ownBlock = some w.heap.size) → K (a.put op.dst v') w') : op.wp Try.prog a w K Q := by
  obtain ⟨i0, hi0, hz0, hz1, hz2⟩ := info_parts infoR
  have hml := hm.out
  have hll := hle.out
  obtain ⟨v', w', hrun, h1, h2, _, h4⟩ := run_append_own_at (P := Try.prog) w base 25 op.type 57 i0 _ 23 96 Try.underlying25 hi0 hz0 hz1 hz2 rfl (by decide) v D.length (flatR D) hE.out.1 ⟨G, o, none⟩ m c (flatR ys) (by rw [flatR_len ys hy.out, hml]) (fun j u hu => by
    have := hr.out j u hu
    have hadd : (⟨G, o, none⟩ : Addr).add j = ⟨G, o + j, none⟩ := by unfold Addr.add; split <;> simp_all
    rw [hadd]
    exact this) (flatR_one ys) (by unfold maxLen; omega) (by omega) hbase.out
  unfold Oper.wp execOp
  simp only [ho, resolve, invoke, builtin, Sem.run_bind, Sem.run_pure, Result.andThen_ok, List.map_toArray, List.map_cons, List.map_nil, hs, hx, hrun]
  refine h v' w' (Lib.hid ⟨?_, ?_⟩) (Lib.hid h2) (Lib.hid h4)
  · rw [List.length_append, flatR_append, ← hml]; exact h1
  · intro e he
    rcases List.mem_append.1 he with he | he
    · exact hE.out.2 e he
    · exact hy.out e he
theorem built_rec5 (nm : ByteArray) (ty cl ttl : Int) (tg : ByteArray) : Try.prog.built 57 [(0, .string nm), (1, .int .i64 ty), (2, .int .i64 cl), (3, .int .i64 ttl), (5, .string tg)] = some (recL ⟨nm, ty, cl, ttl, 0, List.replicate 16 0, tg, ⟨#[]⟩⟩).toArray := rfl
theorem build_rec5 {ops : Array Oper} {rest : List Oper} {op : Oper} {a : Act} {w : World} {Q : Exit → Act → World → Prop} {nm tg : ByteArray} {ty cl ttl : Int} (hg : op.guard = none) (x0 x1 x2 x3 x5 : Operand) (ho : op.op = .build 57 #[(0, x0), (1, x1), (2, x2), (3, x3), (5, x5)])
    (h0 : a.eval x0 = .string nm) (h1 : a.eval x1 = .int .i64 ty) (h2 : a.eval x2 = .int .i64 cl) (h3 : a.eval x3 = .int .i64 ttl) (h5 : a.eval x5 = .string tg) (h : wpList Try.prog ops Q rest (a.put op.dst (recV ⟨nm, ty, cl, ttl, 0, List.replicate 16 0, tg, ⟨#[]⟩⟩)) w) : wpList Try.prog ops Q (op :: rest) a w := by
  have e : Try.prog.built 57 ((#[(0, x0), (1, x1), (2, x2), (3, x3), (5, x5)] : Array (Nat × Operand)).map fun (i, x) => (i, a.eval x)).toList = some (recL ⟨nm, ty, cl, ttl, 0, List.replicate 16 0, tg, ⟨#[]⟩⟩).toArray := by
    simp only [List.map_toArray, List.map_cons, List.map_nil]
    rw [h0, h1, h2, h3, h5]; exact built_rec5 nm ty cl ttl tg
  refine wpList_build hg 57 _ ho (by rw [e]; rfl) ?_
  rw [e]
  exact h
theorem built_recE (nm : ByteArray) : Try.prog.built 57 [(0, .string nm), (1, .int .i64 1), (2, .int .i64 1), (3, .int .i64 5000), (4, addrV 4 (List.replicate 16 0))] = some (recL ⟨nm, 1, 1, 5000, 4, List.replicate 16 0, ⟨#[]⟩, ⟨#[]⟩⟩).toArray := by kernel_rfl
/-- A new row of one record, where it lies. -/
theorem rec_range (w : World) (r : Rec) : (w.alloc (.cells (recL r).toArray 57)).rangeAt w.heap.size 0 (flatR [r]) := by
  have := built_new (w := w) (cs := recL r) 57
  rw [show flatR [r] = recL r from List.append_nil _]
  exact this
theorem RowR.kept2 {w w' : World} {B : Nat} {v : Value} {D : List Rec} (h : RowR w B v D) (hk : ∀ g, v.ownBlock = some g → w'.heap[g]? = w.heap[g]?) : RowR w' B v D := by
  obtain ⟨⟨h1, h2⟩, h3⟩ := h
  refine ⟨⟨h1, ?_⟩, h3⟩
  rcases h2 with h2 | ⟨g, cap, cur, e1, e2, e3, e4⟩
  · exact .inl h2
  · exact .inr ⟨g, cap, cur, e1, e2, (hk g (by rw [e1]; rfl)).trans e3, e4⟩
theorem own_rangeM {w : World} {base : Nat} {t : TypeId} {z : Nat} {v : Value} {n : Nat} {xs : List Value} (h : w.ownsRow base t z v n xs) : ∃ ad c, v = .slice ad n c ∧ True := by
  rcases h.2 with ⟨rfl, e⟩ | ⟨g, cap, cur, rfl, hg, hc, h1, h2, _⟩
  · exact ⟨none, 0, by rw [e], trivial⟩
  · exact ⟨_, _, rfl, trivial⟩
theorem RowR.isSlice {w : World} {B : Nat} {v : Value} {D : List Rec} (h : RowR w B v D) : ∃ ad c, v = .slice ad D.length c := by
  obtain ⟨ad, c, e, _⟩ := own_rangeM h.1
  exact ⟨ad, c, e⟩
theorem build_adG {ops : Array Oper} {rest : List Oper} {op : Oper} {a : Act} {w : World} {Q : Exit → Act → World → Prop} {r : Ad} (h16 : Hid (r.2.length = 16)) (hw : Region.wanted op (yielded ops a.tmps) = true) (x : Operand) (ho : op.op = .buildSlice 41 1 #[(0, x)])
    (hx : a.eval x = addrV r.1 r.2) (h : ∀ W, Hid (W = w.alloc (.cells (adL r).toArray 55)) → wpList Try.prog ops Q rest (a.put op.dst (.slice (some ⟨w.heap.size, 0, none⟩) 1 1)) W) : wpList Try.prog ops Q (op :: rest) a w := by
  unfold wpList
  rw [if_pos hw]
  refine .inl ?_
  unfold Oper.wp execOp
  simp only [ho, List.map_toArray, List.map_cons, List.map_nil, hx, Sem.run_bind, run_buildA1 r h16.out w, Result.andThen_ok]
  exact h _ (Lib.hid rfl)
theorem ads_new (w : World) (r : Ad) (h16 : r.2.length = 16) : AdsAt (w.alloc (.cells (adL r).toArray 55)) (some ⟨w.heap.size, 0, none⟩) 1 [r] :=
  ⟨Nat.le_refl _, by unfold maxLen; omega, (fun x hx => by rw [List.mem_singleton.1 hx]; exact h16), .inr ⟨w.heap.size, 0, rfl, by simp, ad_range w r⟩⟩
end Go.Proofs.Ytmecdhlehekdeaa

/- Texts that belong together, one behind the other: Cases, RefLabel, RecKit, RecAt, RefAddr, RefAddrBits, RefAddrMay, RefRest, RefLabBytes, RefLabGood, RefRun, AppendFoot, BytesKit, RefRunAny, RefReadDefs, RefReadAny, RefFind8, RefName8, RefNameSt, RefNameFin, RefNameAny, RefWire1, RefWireRec, RefWireMay, RecRow, MaskN, RefMat1, AddrHeld. -/
import Derived.Test.YtedmkdjijhflnaaB1
import Derived.Lib.ConvBytes
import Derived.Laws.IdiomStrings
import Derived.RegionTactic
import Derived.BigRegion
import Derived.Deep.Cut
import Derived.Lib.AppendStr
import Derived.Maps.AppendAt
import Derived.Laws.AppendOwnNone
import Derived.Deep.RegionHeld3
import Derived.Laws.OwnMore
/- Contracts of the functions that make letters small and hold texts against one another: small, Lower, Like. -/
namespace Go.Proofs.Ytedmkdjijhflnaa
open Go.RowKit
set_option linter.unusedVariables false
set_option maxRecDepth 20000

/-- A byte, as the small letter if it is a great one. -/
def lowC (n : Nat) : Nat := if 65 ≤ n ∧ n ≤ 90 then n + 32 else n
theorem lowC_le {n : Nat} (h : n < 256) : lowC n < 256 := by unfold lowC; split <;> omega
theorem lowC_low (n : Nat) : lowC (lowC n) = lowC n := by
  by_cases h : 65 ≤ n ∧ n ≤ 90
  · have e : lowC n = n + 32 := by unfold lowC; rw [if_pos h]
    rw [e]; unfold lowC; rw [if_neg (by omega)]
  · have e : lowC n = n := by unfold lowC; rw [if_neg h]
    rw [e, e]
def lowU (c : UInt8) : UInt8 := UInt8.ofNat (lowC c.toNat)
theorem lowU_toNat (c : UInt8) : (lowU c).toNat = lowC c.toNat := by
  unfold lowU
  rw [UInt8.toNat_ofNat']
  exact Nat.mod_eq_of_lt (lowC_le c.toNat_lt)
theorem lowU_low (c : UInt8) : lowU (lowU c) = lowU c := by
  apply UInt8.toNat_inj.1
  rw [lowU_toNat, lowU_toNat, lowC_low]
/-- A text with small letters. -/
def lowB (s : ByteArray) : ByteArray := ⟨(s.data.toList.map lowU).toArray⟩
theorem lowB_list (s : ByteArray) : (lowB s).data.toList = s.data.toList.map lowU := by simp [lowB]
theorem lowB_size (s : ByteArray) : (lowB s).size = s.size := by
  have : (lowB s).data.toList.length = s.data.toList.length := by rw [lowB_list]; simp
  simpa using this
theorem lowB_low (s : ByteArray) : lowB (lowB s) = lowB s := by
  apply bytes_ext
  rw [lowB_list, lowB_list, List.map_map]
  congr 1
  funext c
  exact lowU_low c
def likeB (a b : ByteArray) : Bool := (lowB a).toList == (lowB b).toList
theorem likeB_iff (a b : ByteArray) : likeB a b = true ↔ a.data.toList.map lowU = b.data.toList.map lowU := by
  unfold likeB
  rw [beq_iff_eq, ByteArray.toList_eq, ByteArray.toList_eq, lowB_list, lowB_list]
theorem likeB_symm (a b : ByteArray) : likeB a b = likeB b a := by
  rw [Bool.eq_iff_iff, likeB_iff, likeB_iff]
  exact eq_comm
theorem likeB_low (a : ByteArray) : likeB a (lowB a) = true := by
  rw [likeB_iff, lowB_list, List.map_map]
  congr 1
  funext c
  exact (lowU_low c).symm
theorem likeB_size {a b : ByteArray} (h : a.size ≠ b.size) : likeB a b = false := by
  cases hl : likeB a b with
  | false => rfl
  | true =>
    rw [likeB_iff] at hl
    have := congrArg List.length hl
    simp at this
    omega
def LikeTo (a b : ByteArray) (k : Nat) : Prop := ∀ j (ha : j < a.size) (hb : j < b.size), j < k → lowC (a[j]).toNat = lowC (b[j]).toNat
theorem likeTo_zero (a b : ByteArray) : LikeTo a b 0 := fun _ _ _ h => by omega
theorem likeTo_succ {a b : ByteArray} {k : Nat} (h : LikeTo a b k) (ha : k < a.size) (hb : k < b.size) (he : lowC (a[k]).toNat = lowC (b[k]).toNat) : LikeTo a b (k + 1) := by
  intro j ja jb hlt
  by_cases e : j = k
  · subst e; exact he
  · exact h j ja jb (by omega)
theorem likeB_true {a b : ByteArray} {k : Nat} (h : LikeTo a b k) (hs : a.size = b.size) (hk : a.size ≤ k) : likeB a b = true := by
  rw [likeB_iff]
  apply List.ext_getElem
  · simpa using hs
  · intro j h1 h2
    have j1 : j < a.size := by simpa using h1
    have j2 : j < b.size := by simpa using h2
    rw [List.getElem_map, List.getElem_map]
    apply UInt8.toNat_inj.1
    rw [lowU_toNat, lowU_toNat]
    exact h j j1 j2 (by omega)
theorem likeB_false {a b : ByteArray} {k : Nat} (ha : k < a.size) (hb : k < b.size) (he : lowC (a[k]).toNat ≠ lowC (b[k]).toNat) : likeB a b = false := by
  cases hl : likeB a b with
  | false => rfl
  | true =>
    rw [likeB_iff] at hl
    have h1 : (a.data.toList.map lowU)[k]? = (b.data.toList.map lowU)[k]? := by rw [hl]
    rw [List.getElem?_eq_getElem (by simpa using ha), List.getElem?_eq_getElem (by simpa using hb), List.getElem_map, List.getElem_map] at h1
    have h2 := congrArg UInt8.toNat (Option.some.inj h1)
    rw [lowU_toNat, lowU_toNat] at h2
    exact absurd h2 he

set_option maxHeartbeats 400000 in
theorem small_any (c : Nat) (w : World) (hc : c < 256) :
    Calls Try.prog 53 #[.int .u8 (c : Int)] w fun e w' => e = .returned (.int .u8 ((lowC c : Nat) : Int)) ∧ w = w' := by
  by_cases h : 65 ≤ c ∧ c ≤ 90
  · have e : lowC c = c + 32 := by unfold lowC; rw [if_pos h]
    rw [e]
    go_enter Try.func53, Try.ntmps53
    go_wp2
    go_ret
    refine ⟨?_, rfl⟩
    have e2 : IntKind.u8.wrap ((c : Int) + 32) = ((c + 32 : Nat) : Int) := by rw [IntKind.wrap_u8]; omega
    first | rfl | rw [e2] | simp [e2]
  · have e : lowC c = c := by unfold lowC; rw [if_neg h]
    rw [e]
    by_cases h1 : c < 65
    · go_enter Try.func53, Try.ntmps53
      go_wp2
      go_ret
      exact ⟨rfl, rfl⟩
    · have h2 : 90 < c := by omega
      go_enter Try.func53, Try.ntmps53
      go_wp2
      go_ret
      exact ⟨rfl, rfl⟩

set_option maxHeartbeats 400000 in
theorem like_any (a b : ByteArray) (w : World) (ha : a.size ≤ 2000000) (hb : b.size ≤ 2000000) :
    Calls Try.prog 47 #[.string a, .string b] w fun e w' => e = .returned (.bool (likeB a b)) ∧ ∃ q, w' = w.drewN q := by
  by_cases hs : a.size = b.size
  · have HS := Lib.hid hs
    have hs1 : ((a.size : Int) != (b.size : Int)) = false := by simp [hs]
    have hs2 : a.size ≤ b.size := by omega
    clear hs
    go_enter Try.func47, Try.ntmps47
    go_wp2
    go_loopw [13] (fun i wr => ∃ k q : Nat, k ≤ a.size ∧ i = .int .i64 k ∧ LikeTo a b k ∧ wr = w.drewN q) (fun i _ => a.size - (intOf i).toNat)
    case atStart => exact ⟨0, 0, Nat.zero_le _, rfl, likeTo_zero _ _, rfl⟩
    case round =>
      obtain ⟨k, q, hk, rfl, hlk, rfl⟩ := hrel
      by_cases hlt : k < a.size
      · have hltb : k < b.size := by omega
        have b0 : (0 : Int) ≤ (k : Int) := by omega
        have b1 : (k : Int) < (a.size : Int) := by omega
        have b2 : (k : Int) < (b.size : Int) := by omega
        have u1 : (a[k]).toNat < 256 := (a[k]).toNat_lt
        have u2 : (b[k]).toNat < 256 := (b[k]).toNat_lt
        by_cases he : lowC (a[k]).toNat = lowC (b[k]).toNat
        · have ht : ((lowC (a[k]).toNat : Int) != (lowC (b[k]).toNat : Int)) = false := by simp [he]
          have HE := Lib.hid he
          clear he
          go_wp2
          go_quiet ((go_at_call 53; first | exact quiet_left (small_any _ _ (by assumption)) | exact quiet_add_left (small_any _ _ (by assumption))))
          go_wp2
          go_roundw
          case rel => exact ⟨k + 1, _, by omega, by go_num, likeTo_succ hlk hlt hltb HE.out, rfl⟩
          case measure => simp [intOf]; omega
        · have ht : ((lowC (a[k]).toNat : Int) != (lowC (b[k]).toNat : Int)) = true := by simp; omega
          have HE := Lib.hid he
          clear he
          go_wp2
          go_quiet ((go_at_call 53; first | exact quiet_left (small_any _ _ (by assumption)) | exact quiet_add_left (small_any _ _ (by assumption))))
          go_wp2
          go_ret
          exact ⟨bool_ret (likeB_false hlt hltb HE.out).symm, by first | exact ⟨_, rfl⟩ | exact ⟨_, World.drewN_drewN _ _ _⟩⟩
      · go_wp2
        go_ret
        exact ⟨bool_ret (likeB_true hlk HS.out (by omega)).symm, _, rfl⟩
  · have hs1 : ((a.size : Int) != (b.size : Int)) = true := by simp; omega
    have HS := Lib.hid hs
    clear hs
    go_enter Try.func47, Try.ntmps47
    go_wp2
    go_ret
    exact ⟨bool_ret (likeB_size HS.out).symm, 0, rfl⟩

/-- The row of bytes that Lower works on, its first k bytes made small. -/
def LowAt (w : World) (s : ByteArray) (k : Nat) (wr : World) : Prop :=
  Below w.heap.size w wr ∧ w.heap.size < wr.heap.size ∧ ∀ j (hj : j < s.size), wr.cell? ⟨w.heap.size, j, none⟩ = some (.int .u8 ((if j < k then lowC (s[j]).toNat else (s[j]).toNat : Nat) : Int)) ∧ wr.frozen? ⟨w.heap.size, j, none⟩ = false
theorem lowAt_start (w : World) (s : ByteArray) : LowAt w s 0 (Lib.bytesWorld w 5 s) := by
  refine ⟨⟨rfl, rfl, rfl, by rw [Lib.bytesWorld_size]; omega, fun k hk => Lib.bytesWorld_at_old w _ s k hk⟩, by rw [Lib.bytesWorld_size]; omega, fun j hj => ⟨?_, ?_⟩⟩
  · rw [Lib.bytesWorld_cell w _ s j hj, if_neg (by omega)]
    have e : s.data.toList.getD j 0 = s[j] := by
      rw [List.getD_eq_getElem?_getD, List.getElem?_eq_getElem (by simpa using hj)]; rfl
    rw [e]
  · unfold World.frozen?
    rw [Lib.bytesWorld_at_new]
    have : s.size ≤ (Lib.bytesCells w 5 s).size := by simp [Lib.bytesCells]
    simp
    omega
theorem lowAt_step {w : World} {s : ByteArray} {k : Nat} {wr : World} (h : LowAt w s k wr) (hk : k < s.size) : LowAt w s (k + 1) (wr.setCell ⟨w.heap.size, k, none⟩ (.int .u8 ((lowC (s[k]).toNat : Nat) : Int))) := by
  obtain ⟨h1, h2, h3⟩ := h
  refine ⟨h1.setCell (Nat.le_refl _) _, by simpa [World.setCell] using h2, fun j hj => ⟨?_, by rw [World.frozen?_setCell]; exact (h3 j hj).2⟩⟩
  by_cases e : j = k
  · subst e
    rw [World.cell?_setCell_same _ _ _ (h3 j hj).1, if_pos (by omega)]
  · rw [World.cell?_setCell_other _ _ _ _ (by intro h; injection h; omega), (h3 j hj).1]
    by_cases hlt : j < k
    · rw [if_pos hlt, if_pos (by omega)]
    · rw [if_neg hlt, if_neg (by omega)]
theorem lowAt_back {w : World} {s : ByteArray} {wr : World} (cap : Nat) (h : LowAt w s s.size wr) :
    (convert 115 9 (.slice (some ⟨w.heap.size, 0, none⟩) s.size cap)).run Try.prog wr = .ok (.string (lowB s)) wr := by
  have hl : (s.data.toList.map lowU).length = s.size := by simp
  have hb := run_convert_bytes_back (P := Try.prog) wr 115 9 5 ⟨w.heap.size, 0, none⟩ cap (s.data.toList.map lowU) Try.underlying115 Try.underlying5 Try.underlying9 (by
    intro j hj
    have hj' : j < s.size := by omega
    have := (h.2.2 j hj').1
    rw [if_pos hj'] at this
    rw [List.getElem_map, lowU_toNat]
    rw [add_none]
    exact this)
  rw [hl] at hb
  exact hb

set_option maxHeartbeats 400000 in
theorem lower_any (s : ByteArray) (w : World) (hs : s.size ≤ 2000000) :
    Calls Try.prog 51 #[.string s] w fun e w' => e = .returned (.string (lowB s)) ∧ Below w.heap.size w w' := by
  have hconv := fun W => Lib.run_convert_string_bytes (P := Try.prog) W 9 115 5 s Try.underlying9 Try.underlying115 Try.underlying5
  have hst := lowAt_start w s
  go_enter Try.func51, Try.ntmps51
  go_wp2
  generalize grownCap w s.size 0 5 = cap
  clear hconv
  generalize Lib.bytesWorld w 5 s = W1 at *
  go_loopw [10] (fun i wr => ∃ k : Nat, k ≤ s.size ∧ i = .int .i64 k ∧ LowAt w s k wr) (fun i _ => s.size - (intOf i).toNat)
  case atStart => exact ⟨0, Nat.zero_le _, rfl, hst⟩
  case round =>
    obtain ⟨k, hk, rfl, hat⟩ := hrel
    by_cases hlt : k < s.size
    · have hc := (hat.2.2 k hlt).1
      have hf := (hat.2.2 k hlt).2
      rw [if_neg (by omega)] at hc
      have u1 : (s[k]).toNat < 256 := (s[k]).toNat_lt
      have hnext := lowAt_step hat hlt
      go_wp2_with fail
      refine (small_any _ _ u1).mono ?_
      rintro e w' ⟨rfl, rfl⟩
      go_wp2
      go_roundw
      case rel => exact ⟨k + 1, by omega, by go_num, hnext⟩
      case measure => simp [intOf]; omega
    · obtain rfl : k = s.size := by omega
      have hb := lowAt_back cap hat
      have hbel := hat.1
      go_wp2
      go_ret
      exact ⟨rfl, hbel⟩

theorem low_snoc (s : ByteArray) (k : Nat) (h : k < s.size) : (s.data.toList.map lowU).take (k + 1) = (s.data.toList.map lowU).take k ++ [lowU s[k]] := by
  rw [List.take_succ_eq_append_getElem (by simpa using h)]
  simp
  rfl

set_option maxHeartbeats 400000 in
theorem refLower_any (s : ByteArray) (w : World) (hs : s.size ≤ 2000000) :
    Calls Try.prog 49 #[.string s] w fun e w' => e = .returned (.string (lowB s)) ∧ Below w.heap.size w w' := by
  obtain ⟨i0, hi0, hz0, hz1, hz2⟩ := info_parts Try.infoByte
  go_enter Try.func49, Try.ntmps49
  go_wp2
  go_loopw [3, 4] (fun v i wr => ∃ k : Nat, k ≤ s.size ∧ i = .int .i64 k ∧ wr.ownsRow w.heap.size 5 1 v ((s.data.toList.map lowU).take k).length (bys ((s.data.toList.map lowU).take k)) ∧ Below w.heap.size w wr) (fun _ i _ => s.size - (intOf i).toNat)
  case atStart => exact ⟨0, Nat.zero_le _, rfl, World.ownsRow_nil _ _ _ _, Below.refl _ _⟩
  case round =>
    obtain ⟨k, hk, rfl, hown, hbel⟩ := hrel
    have hsz := hbel.size
    by_cases hlt : k < s.size
    · have HS := Lib.hid (low_snoc s k hlt)
      have hl : ((s.data.toList.map lowU).take k).length ≤ k := List.length_take_le _ _
      generalize (s.data.toList.map lowU).take k = l at *
      have u1 : (s[k]).toNat < 256 := (s[k]).toNat_lt
      by_cases hc : 65 ≤ (s[k]).toNat ∧ (s[k]).toNat ≤ 90
      · have hx : (s[k]).toNat + 32 = (lowU s[k]).toNat := by rw [lowU_toNat]; unfold lowC; rw [if_pos hc]
        have HX := Lib.hid hx
        clear hx
        have hw : IntKind.u8.wrap (((s[k]).toNat : Int) + 32) = ((s[k]).toNat : Int) + 32 := by rw [IntKind.wrap_u8]; omega
        go_wp2_with (at_builtin; refine wpList_append_own _ rfl (.tmp 23) (.tmp 25) 115 rfl w.heap.size 5 i0 _ 1 1 Try.underlying115 hi0 hz0 hz1 hz2 rfl (by decide) _ _ _ rfl (hown.alloc _) ⟨wr.heap.size, 0, none⟩ 1 1 [.int .u8 (((s[k]).toNat : Int) + 32)] rfl rfl ?c1 ?c2 ?c3 ?c4 ?c5 ?_)
        case c1 => exact cell_one_new _ _ _
        case c2 => intro u hu; simp at hu; subst hu; rfl
        case c3 => unfold maxLen; omega
        case c4 => omega
        case c5 => simp; omega
        intro v' w1 hown' hgrow _
        rw [show (((s[k]).toNat : Int) + 32) = ((lowU s[k]).toNat : Int) by have := HX.out; omega] at hown'
        have R := own_byte hown' hgrow hown hbel
        clear hown' hgrow hown hbel hw
        go_wp2
        go_roundw
        case rel => exact ⟨k + 1, by omega, by go_num, by rw [HS.out]; exact R.1, R.2⟩
        case measure => simp [intOf]; omega
      · have hx : (s[k]).toNat = (lowU s[k]).toNat := by rw [lowU_toNat]; unfold lowC; rw [if_neg hc]
        have HX := Lib.hid hx
        clear hx
        have hcc : (s[k]).toNat < 65 ∨ 90 < (s[k]).toNat := by omega
        clear hc
        rcases hcc with hc | hc
        all_goals
          go_wp2_with (at_builtin; refine wpList_append_own _ rfl (.tmp 23) (.tmp 25) 115 rfl w.heap.size 5 i0 _ 1 1 Try.underlying115 hi0 hz0 hz1 hz2 rfl (by decide) _ _ _ rfl (hown.alloc _) ⟨wr.heap.size, 0, none⟩ 1 1 [.int .u8 ((s[k]).toNat : Int)] rfl rfl (cell_one_new _ _ _) (by intro u hu; simp at hu; subst hu; rfl) (by unfold maxLen; omega) (by omega) (by simp; omega) ?_)
          intro v' w1 hown' hgrow _
          rw [HX.out] at hown'
          have R := own_byte hown' hgrow hown hbel
          clear hown' hgrow hown hbel
          go_wp2
          go_roundw
          case rel => exact ⟨k + 1, by omega, by go_num, by rw [HS.out]; exact R.1, R.2⟩
          case measure => simp [intOf]; omega
    · obtain rfl : k = s.size := by omega
      have hb := own_bytes_back hown
      have e : (⟨((s.data.toList.map lowU).take s.size).toArray⟩ : ByteArray) = lowB s := by
        rw [List.take_of_length_le (by simp)]; rfl
      rw [e] at hb
      clear hown e
      go_wp2
      go_ret
      exact ⟨rfl, hbel⟩

set_option maxHeartbeats 400000 in
theorem refLike_any (a b : ByteArray) (w : World) (ha : a.size ≤ 2000000) (hb : b.size ≤ 2000000) :
    Calls Try.prog 38 #[.string a, .string b] w fun e w' => e = .returned (.bool (likeB a b)) ∧ Below w.heap.size w w' := by
  have HL : Hid (likeB a b = ((lowB a).toList == (lowB b).toList)) := rfl
  go_enter Try.func38, Try.ntmps38
  go_wp2_with fail
  refine (refLower_any a _ ha).mono ?_
  rintro e w1 ⟨rfl, hb1⟩
  go_wp2_with fail
  refine (refLower_any b _ hb).mono ?_
  rintro e w2 ⟨rfl, hb2⟩
  go_wp2
  go_ret
  exact ⟨bool_ret HL.out.symm, chain hb1 hb2⟩

end Go.Proofs.Ytedmkdjijhflnaa
/- Contracts of the reference's layer 8: Labels, size, May, Rest, Under. -/
namespace Go.Proofs.Ytedmkdjijhflnaa
open Go.RowKit
set_option linter.unusedVariables false
set_option maxRecDepth 20000

/-- A name's labels. -/
def labelsB (s : ByteArray) : List ByteArray := if s.size = 0 then [] else pieces s 46
/-- A row of texts, which may be nil. -/
def RowS (w : World) (a : Option Addr) (c : Nat) (l : List ByteArray) : Prop := (a = none ∧ c = 0 ∧ l = []) ∨ ∃ g, a = some ⟨g, 0, none⟩ ∧ StrRow w g l.length c l
theorem RowS.below {w w' : World} {a : Option Addr} {c : Nat} {l : List ByteArray} (h : RowS w a c l) (hb : Below w.heap.size w w') : RowS w' a c l := by
  rcases h with h | ⟨g, e, h⟩
  · exact .inl h
  · exact .inr ⟨g, e, h.below hb⟩
theorem RowS.cap {w : World} {a : Option Addr} {c : Nat} {l : List ByteArray} (h : RowS w a c l) : l.length ≤ c ∧ c ≤ maxLen := by
  rcases h with ⟨_, rfl, rfl⟩ | ⟨g, e, h⟩
  · exact ⟨Nat.le_refl _, Nat.zero_le _⟩
  · exact ⟨h.cap, h.capm⟩
theorem labels_small (s : ByteArray) : ∀ p ∈ labelsB s, p.size ≤ s.size := by
  unfold labelsB
  split
  · intro p hp; cases hp
  · exact pieces_small s 46
theorem labels_len (s : ByteArray) : (labelsB s).length ≤ s.size + 1 := by
  unfold labelsB
  split
  · simp
  · exact pieces_len s 46
/-- How many bytes names of these labels have. -/
def sizeTo (l : List ByteArray) : Nat → Nat
  | 0 => 1
  | k + 1 => sizeTo l k + 1 + (l.getD k ⟨#[]⟩).size
def sizeL (l : List ByteArray) : Nat := sizeTo l l.length
theorem sizeTo_le {l : List ByteArray} (h : ∀ p ∈ l, p.size ≤ 2000000) : ∀ k, sizeTo l k ≤ 1 + k * 2000001
  | 0 => by simp [sizeTo]
  | k + 1 => by
    have h1 := sizeTo_le h k
    have h2 := getD_small h k
    unfold sizeTo
    omega
/-- A name of these labels may be. -/
def MayL (l : List ByteArray) : Prop := (∀ k, k < l.length → 1 ≤ (l.getD k ⟨#[]⟩).size ∧ (l.getD k ⟨#[]⟩).size ≤ 63) ∧ sizeL l ≤ 255
instance (l : List ByteArray) : Decidable (MayL l) := by unfold MayL; infer_instance
def mayN (s : ByteArray) : Bool := decide (MayL (labelsB s))
end Go.Proofs.Ytedmkdjijhflnaa
/- A record (api.Record: 23 cells) in memory: its cells, read whole or in part; rows of records. -/
namespace Go.Proofs.Ytedmkdjijhflnaa
open Go.RowKit
set_option linter.unusedVariables false
set_option maxRecDepth 20000

structure Rec where
  name : ByteArray
  ty : Int
  cl : Int
  ttl : Int
  f : Int
  b : List Nat
  tg : ByteArray
  da : ByteArray
deriving DecidableEq
def recL (r : Rec) : List Value := [Value.string r.name, .int .i64 r.ty, .int .i64 r.cl, .int .i64 r.ttl] ++ addrL r.f r.b ++ [.string r.tg, .string r.da]
def recV (r : Rec) : Value := .agg (recL r).toArray
theorem recL_len (r : Rec) (h : r.b.length = 16) : (recL r).length = 23 := by simp [recL, addrL_len r.f r.b h]
theorem recL_one (r : Rec) : ∀ u ∈ recL r, u.oneCell' = true := by
  intro u hu
  unfold recL at hu
  rcases List.mem_append.1 hu with hu | hu
  · rcases List.mem_append.1 hu with hu | hu
    · simp at hu
      rcases hu with rfl | rfl | rfl | rfl <;> rfl
    · have := addrL_one r.f r.b
      rw [Array.all_eq_true_iff_forall_mem] at this
      exact this u (by simpa using hu)
  · simp at hu
    rcases hu with rfl | rfl <;> rfl
theorem rec_size : (Try.prog.info? 44).map (·.size) = some 23 := by kernel_rfl
/-- A record's parts, where it lies. -/
structure RecIn (w : World) (G o : Nat) (r : Rec) : Prop where
  name : w.cell? ⟨G, o, none⟩ = some (.string r.name)
  ty : w.cell? ⟨G, o + 1, none⟩ = some (.int .i64 r.ty)
  cl : w.cell? ⟨G, o + 2, none⟩ = some (.int .i64 r.cl)
  ttl : w.cell? ⟨G, o + 3, none⟩ = some (.int .i64 r.ttl)
  addr : w.rangeAt G (o + 4) (addrL r.f r.b)
  tg : w.cell? ⟨G, o + 21, none⟩ = some (.string r.tg)
  da : w.cell? ⟨G, o + 22, none⟩ = some (.string r.da)
theorem RecIn.fam {w : World} {G o : Nat} {r : Rec} (h : RecIn w G o r) : w.cell? ⟨G, o + 4, none⟩ = some (.int .i64 r.f) := h.addr 0 _ rfl
theorem rec_parts {w : World} {G o : Nat} {r : Rec} (h : w.rangeAt G o (recL r)) (h16 : r.b.length = 16) : RecIn w G o r := by
  have hl := addrL_len r.f r.b h16
  have e1 : ∀ j, j < 17 → (recL r)[4 + j]? = (addrL r.f r.b)[j]? := fun j hj => by
    unfold recL
    rw [List.append_assoc, List.getElem?_append_right (by simp), List.getElem?_append_left (by simp [hl]; omega)]
    congr 1
    simp
  refine ⟨h 0 _ rfl, h 1 _ rfl, h 2 _ rfl, h 3 _ rfl, fun j u hu => ?_, ?_, ?_⟩
  · have hj : j < 17 := by
      have := (List.getElem?_eq_some_iff.1 hu).1
      omega
    have := h (4 + j) u (by rw [e1 j hj]; exact hu)
    rw [← Nat.add_assoc] at this
    exact this
  · refine h 21 _ ?_
    unfold recL
    rw [List.getElem?_append_right (by simp [hl])]
    simp [hl]
  · refine h 22 _ ?_
    unfold recL
    rw [List.getElem?_append_right (by simp [hl])]
    simp [hl]
theorem RecIn.below {w w' : World} {G o : Nat} {r : Rec} (h : RecIn w G o r) (hb : Below w.heap.size w w') : RecIn w' G o r := by
  have hlt : G < w.heap.size := World.block_lt_of_cell? w ⟨G, o, none⟩ h.name
  exact ⟨(hb.cell (p := ⟨G, o, none⟩) hlt).trans h.name, (hb.cell (p := ⟨G, o + 1, none⟩) hlt).trans h.ty, (hb.cell (p := ⟨G, o + 2, none⟩) hlt).trans h.cl, (hb.cell (p := ⟨G, o + 3, none⟩) hlt).trans h.ttl, fun j u hu => (hb.cell (p := ⟨G, o + 4 + j, none⟩) hlt).trans (h.addr j u hu), (hb.cell (p := ⟨G, o + 21, none⟩) hlt).trans h.tg, (hb.cell (p := ⟨G, o + 22, none⟩) hlt).trans h.da⟩
/-- A record boxed. -/
theorem rec_boxed (r : Rec) (w : World) (h16 : r.b.length = 16) : ∃ cs : Array Value, recV r = .agg cs ∧ Hid (RecIn (w.alloc (.cells cs 44)) w.heap.size 0 r) ∧ Hid (Below w.heap.size w (w.alloc (.cells cs 44))) := by
  refine ⟨_, rfl, Lib.hid (rec_parts (fun j u hu => ?_) h16), Lib.hid ((Below.refl _ _).alloc (Nat.le_refl _) _)⟩
  rw [World.cell?_alloc_new, Nat.zero_add]
  simpa using hu
/-- A record, loaded whole. -/
theorem load_rec {ops : Array Oper} {rest : List Oper} {op : Oper} {a : Act} {w : World} {Q : Exit → Act → World → Prop} {G o : Nat} {r : Rec} (hl : Hid (r.b.length = 16)) (hA : Hid (w.rangeAt G o (recL r))) (x : Operand) (hw : Region.wanted op (yielded ops a.tmps) = true) (ho : op.op = .load 44 x)
    (hx : a.eval x = .pointer (some ⟨G, o, none⟩)) (h : wpList Try.prog ops Q rest (a.put op.dst (recV r)) w) : wpList Try.prog ops Q (op :: rest) a w :=
  wpList_load_row hw 44 x ho G o hx (recL r) _ hA.out Try.underlying44 rfl (by rw [rec_size, recL_len r hl.out]) h
/-- An address, loaded whole from wherever it lies. -/
theorem load_addr_o {ops : Array Oper} {rest : List Oper} {op : Oper} {a : Act} {w : World} {Q : Exit → Act → World → Prop} {G o : Nat} {f : Int} {bs : List Nat} (hl : Hid (bs.length = 16)) (hA : Hid (w.rangeAt G o (addrL f bs))) (x : Operand) (hw : Region.wanted op (yielded ops a.tmps) = true) (ho : op.op = .load 42 x)
    (hx : a.eval x = .pointer (some ⟨G, o, none⟩)) (h : wpList Try.prog ops Q rest (a.put op.dst (addrV f bs)) w) : wpList Try.prog ops Q (op :: rest) a w :=
  wpList_load_row hw 42 x ho G o hx (addrL f bs) _ hA.out Try.underlying42 rfl (by rw [addr_size, addrL_len f bs hl.out]) h
/-- Rows of records that lie somewhere, or none. -/
def flatR (D : List Rec) : List Value := D.flatMap recL
def Fit (r : Rec) : Prop := r.b.length = 16 ∧ (∀ x ∈ r.b, x < 256) ∧ (Lit.int .i64 r.ty).wf = true ∧ (Lit.int .i64 r.cl).wf = true ∧ (Lit.int .i64 r.ttl).wf = true ∧ (Lit.int .i64 r.f).wf = true ∧ r.name.size ≤ maxLen ∧ r.tg.size ≤ maxLen ∧ r.da.size ≤ maxLen
def RecsAt (w : World) (a : Option Addr) (cap : Nat) (D : List Rec) : Prop :=
  D.length ≤ cap ∧ cap ≤ maxLen ∧ (∀ r ∈ D, Fit r) ∧ (D.length = 0 ∨ ∃ g o, a = some ⟨g, o, none⟩ ∧ g < w.heap.size ∧ w.rangeAt g o (flatR D))
theorem RecsAt.below {w w' : World} {a : Option Addr} {cap : Nat} {D : List Rec} (h : RecsAt w a cap D) (hb : Below w.heap.size w w') : RecsAt w' a cap D := by
  obtain ⟨h1, h2, h3, h4⟩ := h
  refine ⟨h1, h2, h3, ?_⟩
  rcases h4 with h4 | ⟨g, o, e, hg, hr⟩
  · exact .inl h4
  · exact .inr ⟨g, o, e, Nat.lt_of_lt_of_le hg hb.size, fun j u hu => (hb.cell (p := ⟨g, o + j, none⟩) hg).trans (hr j u hu)⟩
theorem RecsAt.at {w : World} {a : Option Addr} {cap : Nat} {D : List Rec} (h : RecsAt w a cap D) (k : Nat) (hk : k < D.length) : ∃ g o, a = some ⟨g, o, none⟩ ∧ g < w.heap.size ∧ w.rangeAt g (o + k * 23) (recL D[k]) := by
  obtain ⟨h1, h2, h3, h4⟩ := h
  rcases h4 with h4 | ⟨g, o, e, hg, hr⟩
  · omega
  · exact ⟨g, o, e, hg, range_at hr (fun d hd => recL_len d (h3 d hd).1) k hk⟩
end Go.Proofs.Ytedmkdjijhflnaa
/- A record of one's own in memory: stored whole and in part, given back. -/
namespace Go.Proofs.Ytedmkdjijhflnaa
open Go.RowKit
set_option linter.unusedVariables false
set_option maxRecDepth 20000

/-- A record lies at G, and may be written. -/
structure RecAt (w : World) (G : Nat) (r : Rec) : Prop where
  len : r.b.length = 16
  lt : G < w.heap.size
  range : w.rangeAt G 0 (recL r)
  there : w.there G 0 23
section
variable {w w' : World} {G : Nat} {r : Rec}
theorem RecAt.below (h : RecAt w G r) (hb : Below w.heap.size w w') : RecAt w' G r :=
  ⟨h.len, Nat.lt_of_lt_of_le h.lt hb.size, fun j u hu => by rw [hb.cell (p := ⟨G, 0 + j, none⟩) h.lt]; exact h.range j u hu, fun j hj => by
    rw [hb.cell (p := ⟨G, 0 + j, none⟩) h.lt, hb.frozen (p := ⟨G, 0 + j, none⟩) h.lt]
    exact h.there j hj⟩
theorem RecAt.parts (h : RecAt w G r) : RecIn w G 0 r := rec_parts h.range h.len
theorem RecAt.cell (h : RecAt w G r) (k : Nat) (v : Value) (hv : (recL r)[k]? = some v) : w.cell? ⟨G, k, none⟩ = some v := by
  have := h.range k v hv
  rwa [Nat.zero_add] at this
theorem RecAt.live (h : RecAt w G r) (k : Nat) (hk : k < 23) : w.frozen? ⟨G, k, none⟩ = false := by
  have := (h.there k hk).2
  rwa [Nat.zero_add] at this
theorem RecAt.stored (h : RecAt w G r) (s : Rec) (hl : s.b.length = 16) : RecAt (w.setCells G 0 (recL s)) G s := by
  have ht : w.there G 0 (recL s).length := by rw [recL_len s hl]; exact h.there
  exact ⟨hl, by rw [size_setCells]; exact h.lt, World.rangeAt_setCells_same w G 0 _ ht, World.there_setCells h.there G 0 _⟩
theorem RecAt.other (h : RecAt w G r) {G' : Nat} (hG : G' ≠ G) (k : Nat) (v : Value) : RecAt (w.setCell ⟨G', k, none⟩ v) G r := by
  have hn : ∀ j, (⟨G', k, none⟩ : Addr) ≠ ⟨G, j, none⟩ := fun j h2 => by injection h2 with h3 _ _; exact hG h3
  refine ⟨h.len, by simpa using h.lt, fun j u hu => ?_, fun j hj => ⟨?_, ?_⟩⟩
  · rw [World.cell?_setCell_other _ _ _ _ (hn _)]; exact h.range j u hu
  · rw [World.cell?_setCell_other _ _ _ _ (hn _)]; exact (h.there j hj).1
  · rw [World.frozen?_setCell]; exact (h.there j hj).2
theorem RecAt.apart (h : RecAt w G r) {G' o : Nat} (hG : G ≠ G') (vs : List Value) : RecAt (w.setCells G' o vs) G r :=
  ⟨h.len, by rw [size_setCells]; exact h.lt, World.rangeAt_setCells_apart h.range G' o vs (.inl hG), World.there_setCells h.there G' o vs⟩
/-- One cell of it written. -/
theorem RecAt.set (h : RecAt w G r) (k : Nat) (v : Value) (s : Rec) (hs : s.b.length = 16) (hk : k < 23) (hL : recL s = (recL r).set k v) : RecAt (w.setCell ⟨G, k, none⟩ v) G s := by
  have hl := recL_len r h.len
  obtain ⟨u0, hu0⟩ : ∃ u, (recL r)[k]? = some u := ⟨_, List.getElem?_eq_getElem (by omega)⟩
  refine ⟨hs, by simpa using h.lt, fun j u hu => ?_, fun j hj => ⟨?_, ?_⟩⟩
  · rw [Nat.zero_add]
    rw [hL] at hu
    by_cases e : j = k
    · subst e
      rw [List.getElem?_set_self (by omega)] at hu
      cases hu
      exact World.cell?_setCell_same _ _ _ (h.cell j u0 hu0)
    · rw [List.getElem?_set_ne (fun e2 => e e2.symm)] at hu
      rw [World.cell?_setCell_other _ _ _ _ (by intro h2; injection h2 with _ h3 _; omega)]
      exact h.cell j u hu
  · rw [Nat.zero_add]
    by_cases e : j = k
    · subst e
      rw [World.cell?_setCell_same _ _ _ (h.cell j u0 hu0)]
      rfl
    · rw [World.cell?_setCell_other _ _ _ _ (by intro h2; injection h2 with _ h3 _; omega)]
      have := (h.there j hj).1
      rwa [Nat.zero_add] at this
  · rw [World.frozen?_setCell]
    exact (h.there j hj).2
end
theorem recL_ty (r : Rec) (x : Int) : recL { r with ty := x } = (recL r).set 1 (.int .i64 x) := rfl
theorem recL_ttl (r : Rec) (x : Int) : recL { r with ttl := x } = (recL r).set 3 (.int .i64 x) := rfl
theorem recL_fam (r : Rec) (x : Int) : recL { r with f := x } = (recL r).set 4 (.int .i64 x) := rfl
theorem recL_tg (r : Rec) (h16 : r.b.length = 16) (x : ByteArray) : recL { r with tg := x } = (recL r).set 21 (.string x) := by
  have hl := addrL_len r.f r.b h16
  unfold recL
  rw [List.set_append_right _ _ (by simp [hl])]
  simp [hl]
theorem recL_da (r : Rec) (h16 : r.b.length = 16) (x : ByteArray) : recL { r with da := x } = (recL r).set 22 (.string x) := by
  have hl := addrL_len r.f r.b h16
  unfold recL
  rw [List.set_append_right _ _ (by simp [hl])]
  simp [hl]
theorem recL_byte (r : Rec) (h16 : r.b.length = 16) (i v : Nat) (hi : i < 16) : recL { r with b := r.b.set i v } = (recL r).set (5 + i) (.int .u8 (v : Int)) := by
  have hl := addrL_len r.f r.b h16
  unfold recL
  rw [List.set_append_left _ _ (by simp [hl]; omega), List.set_append_right _ _ (by simp; omega)]
  have e : addrL r.f (r.b.set i v) = (addrL r.f r.b).set (i + 1) (.int .u8 (v : Int)) := by
    unfold addrL
    rw [List.set_cons_succ, List.map_set]
  rw [e]
  congr 3
  show i + 1 = 5 + i - 4
  omega
theorem RecAt.of (w : World) (t : TypeId) (cs : Array Value) (r : Rec) (h16 : r.b.length = 16) (h : cs.toList = recL r) : RecAt (w.alloc (.cells cs t)) w.heap.size r := by
  have e : ∀ j, cs[j]? = (recL r)[j]? := fun j => by rw [← h, Array.getElem?_toList]
  refine ⟨h16, by simp, fun j u hu => ?_, fun j hj => ⟨?_, World.frozen?_alloc_new _ _ _ _⟩⟩
  · rw [World.cell?_alloc_new, Nat.zero_add, e]; exact hu
  · rw [World.cell?_alloc_new, Nat.zero_add, e, List.getElem?_eq_getElem (by rw [recL_len r h16]; exact hj)]; rfl
/-- A record of zeros. -/
def zR : Rec := ⟨⟨#[]⟩, 0, 0, 0, 0, List.replicate 16 0, ⟨#[]⟩, ⟨#[]⟩⟩
abbrev zC : Array Value := #[.string ⟨#[]⟩, .int .i64 0, .int .i64 0, .int .i64 0, .int .i64 0, .int .u8 0, .int .u8 0, .int .u8 0, .int .u8 0, .int .u8 0, .int .u8 0, .int .u8 0, .int .u8 0, .int .u8 0, .int .u8 0, .int .u8 0, .int .u8 0, .int .u8 0, .int .u8 0, .int .u8 0, .int .u8 0, .string ⟨#[]⟩, .string ⟨#[]⟩]
theorem rec_zeroed (w : World) : RecAt (w.alloc (.cells zC 44)) w.heap.size zR := RecAt.of w _ _ zR rfl rfl
theorem loadVar_rec {w : World} {G : Nat} {r : Rec} (h : RecAt w G r) : (loadVar 44 ⟨G, 0, none⟩).run Try.prog w = .ok (recV r) w :=
  run_loadVar_mid w G 0 44 (recL r) _ h.range Try.underlying44 rfl (by rw [rec_size, recL_len r h.len])
theorem results_rec {fn : Func} {a : Tmp} {tmps : Array Value} {W : World} {R : Nat} {r : Rec} (h : fn.results = #[.cell a 44]) (ha : tmps.getD a undef = .pointer (some ⟨R, 0, none⟩)) (hA : RecAt W R r) : (results fn tmps).run Try.prog W = .ok (recV r) W := by
  rw [Array.getD_eq_getD_getElem?] at ha
  simp [results, h, ha, asAddr, loadVar_rec hA]
theorem results_rec3 {fn : Func} {a t u : Tmp} {tmps : Array Value} {W : World} {R : Nat} {r : Rec} (h : fn.results = #[.cell a 44, .tmp t, .tmp u]) (ha : tmps.getD a undef = .pointer (some ⟨R, 0, none⟩)) (hA : RecAt W R r) : (results fn tmps).run Try.prog W = .ok (.tuple #[recV r, tmps.getD t undef, tmps.getD u undef]) W := by
  rw [Array.getD_eq_getD_getElem?] at ha
  simp [results, h, ha, asAddr, loadVar_rec hA]
/-- A record, stored whole. -/
theorem store_rec {ops : Array Oper} {rest : List Oper} {op : Oper} {a : Act} {w : World} {Q : Exit → Act → World → Prop} {G : Nat} {r0 r : Rec} (hA : Hid (RecAt w G r0)) (x y : Operand) (hl : Hid (r.b.length = 16)) (hgd : op.guard = none) (ho : op.op = .store 44 x y)
    (hx : a.eval x = .pointer (some ⟨G, 0, none⟩)) (hy : a.eval y = recV r) (h : ∀ W, Hid (W = w.setCells G 0 (recL r)) → Hid (RecAt W G r) → wpList Try.prog ops Q rest (a.put op.dst undef) W) : wpList Try.prog ops Q (op :: rest) a w :=
  wpList_store_mid hgd 44 x y ho G 0 (recL r).toArray hx hy (by rw [List.size_toArray, recL_len r hl.out]; exact hA.out.there) (by rw [rec_size, List.size_toArray, recL_len r hl.out]) (all_oneCell_toArray (recL_one r)) (h _ (Lib.hid rfl) (Lib.hid (hA.out.stored r hl.out)))
theorem load_recAt {ops : Array Oper} {rest : List Oper} {op : Oper} {a : Act} {w : World} {Q : Exit → Act → World → Prop} {G : Nat} {r : Rec} (hA : Hid (RecAt w G r)) (x : Operand) (hw : Region.wanted op (yielded ops a.tmps) = true) (ho : op.op = .load 44 x)
    (hx : a.eval x = .pointer (some ⟨G, 0, none⟩)) (h : wpList Try.prog ops Q rest (a.put op.dst (recV r)) w) : wpList Try.prog ops Q (op :: rest) a w :=
  load_rec (Lib.hid hA.out.len) (Lib.hid hA.out.range) x hw ho hx h
/-- Records built. -/
theorem built_rec0 : Try.prog.built 44 [] = some (recL zR).toArray := rfl
theorem build_rec0 {ops : Array Oper} {rest : List Oper} {op : Oper} {a : Act} {w : World} {Q : Exit → Act → World → Prop} (hg : op.guard = none) (ho : op.op = .build 44 #[])
    (h : wpList Try.prog ops Q rest (a.put op.dst (recV zR)) w) : wpList Try.prog ops Q (op :: rest) a w := by
  have e : Try.prog.built 44 ((#[] : Array (Nat × Operand)).map fun (i, x) => (i, a.eval x)).toList = some (recL zR).toArray := by
    simp only [List.map_toArray, List.map_nil]
    exact built_rec0
  refine wpList_build hg 44 _ ho (by rw [e]; rfl) ?_
  rw [e]
  exact h
theorem built_rec4 (nm : ByteArray) (ty cl ttl : Int) : Try.prog.built 44 [(0, .string nm), (1, .int .i64 ty), (2, .int .i64 cl), (3, .int .i64 ttl)] = some (recL { zR with name := nm, ty := ty, cl := cl, ttl := ttl }).toArray := rfl
theorem build_rec4 {ops : Array Oper} {rest : List Oper} {op : Oper} {a : Act} {w : World} {Q : Exit → Act → World → Prop} {nm : ByteArray} {ty cl ttl : Int} (hg : op.guard = none) (x0 x1 x2 x3 : Operand) (ho : op.op = .build 44 #[(0, x0), (1, x1), (2, x2), (3, x3)])
    (h0 : a.eval x0 = .string nm) (h1 : a.eval x1 = .int .i64 ty) (h2 : a.eval x2 = .int .i64 cl) (h3 : a.eval x3 = .int .i64 ttl) (h : wpList Try.prog ops Q rest (a.put op.dst (recV { zR with name := nm, ty := ty, cl := cl, ttl := ttl })) w) : wpList Try.prog ops Q (op :: rest) a w := by
  have e : Try.prog.built 44 ((#[(0, x0), (1, x1), (2, x2), (3, x3)] : Array (Nat × Operand)).map fun (i, x) => (i, a.eval x)).toList = some (recL { zR with name := nm, ty := ty, cl := cl, ttl := ttl }).toArray := by
    simp only [List.map_toArray, List.map_cons, List.map_nil]
    rw [h0, h1, h2, h3]; exact built_rec4 nm ty cl ttl
  refine wpList_build hg 44 _ ho (by rw [e]; rfl) ?_
  rw [e]
  exact h
end Go.Proofs.Ytedmkdjijhflnaa
/- Contracts of the reference's Four, Groups, Of4, Of6 of layer 4. -/
namespace Go.Proofs.Ytedmkdjijhflnaa
open Go.RowKit
set_option linter.unusedVariables false
set_option maxRecDepth 20000

theorem byte_lt {bs : List Nat} (h : ∀ x ∈ bs, x < 256) (j : Nat) : bs.getD j 0 < 256 := by
  rw [List.getD_eq_getElem?_getD]
  cases hj : bs[j]? with
  | none => exact Nat.zero_lt_succ _
  | some v => exact h v (List.mem_of_getElem? hj)
/-- The number of the first k bytes. -/
def fourTo (bs : List Nat) : Nat → Nat
  | 0 => 0
  | k + 1 => fourTo bs k * 256 + bs.getD k 0
def fourB (bs : List Nat) : Nat := fourTo bs 4
theorem fourTo_lt (bs : List Nat) (h : ∀ x ∈ bs, x < 256) : ∀ k, fourTo bs k < 256 ^ k
  | 0 => Nat.zero_lt_one
  | k + 1 => by
    have h1 := fourTo_lt bs h k
    have h2 := byte_lt h k
    rw [fourTo, Nat.pow_succ]
    omega
end Go.Proofs.Ytedmkdjijhflnaa
/- Contracts of the reference's Bits, Bit, May, Compare of layer 4. -/
namespace Go.Proofs.Ytedmkdjijhflnaa
open Go.RowKit
set_option linter.unusedVariables false
set_option maxRecDepth 20000

/-- How many bits. -/
def bitsN (f : Int) : Nat := if f = 4 then 32 else if f = 6 then 128 else 0
end Go.Proofs.Ytedmkdjijhflnaa
/- Contract of the reference's May of layer 4. -/
namespace Go.Proofs.Ytedmkdjijhflnaa
open Go.RowKit
set_option linter.unusedVariables false
set_option maxRecDepth 20000

/-- All zero from a place on. -/
def zeroTo (bs : List Nat) (k : Nat) : Bool := (bs.drop k).all (· == 0)
theorem zeroTo_at (bs : List Nat) (k : Nat) (h : bs.length = 16) (hk : k < 16) : zeroTo bs k = (bs.getD k 0 == 0 && zeroTo bs (k + 1)) := by
  unfold zeroTo
  rw [List.drop_eq_getElem_cons (by omega), List.all_cons, List.getD_eq_getElem?_getD, List.getElem?_eq_getElem (by omega)]
  rfl
theorem zeroTo_end (bs : List Nat) (h : bs.length = 16) : zeroTo bs 16 = true := by
  unfold zeroTo
  rw [List.drop_eq_nil_of_le (by omega)]
  rfl
def fromN (f : Int) : Nat := if f = 0 then 0 else if f = 4 then 4 else 16
/-- Which address may be. -/
def mayB (f : Int) (bs : List Nat) : Bool := zeroTo bs (fromN f) && (f == 0 || f == 4 || f == 6)
end Go.Proofs.Ytedmkdjijhflnaa
/- Contracts of the reference's layer 8: Rest, Under; Join from anywhere in a row. -/
namespace Go.Proofs.Ytedmkdjijhflnaa
open Go.RowKit
set_option linter.unusedVariables false
set_option maxRecDepth 20000

theorem joinTo_le {xs : List ByteArray} {m : Nat} (h : ∀ p ∈ xs, p.size ≤ m) : ∀ k, (joinTo xs ⟨#[46]⟩ k).size ≤ k * (m + 1)
  | 0 => Nat.zero_le _
  | k + 1 => by
    have h1 := joinTo_le h k
    have h2 := getD_small h k
    rw [joinTo, ByteArray.size_append, Nat.succ_mul]
    split
    · rw [ByteArray.size_append]
      show _ + 1 + _ ≤ _
      omega
    · omega
/-- A name without its first k labels. -/
def restB (s : ByteArray) (k : Nat) : ByteArray := if (labelsB s).length ≤ k then ⟨#[]⟩ else joinB ((labelsB s).drop k) ⟨#[46]⟩
theorem rest_small (s : ByteArray) (k : Nat) (hs : s.size ≤ 900) : (restB s k).size ≤ 2000000 := by
  unfold restB
  split
  · decide
  · unfold joinB
    have h1 := joinTo_le (xs := (labelsB s).drop k) (m := 900) (fun p hp => Nat.le_trans (labels_small s p (List.mem_of_mem_drop hp)) hs) ((labelsB s).drop k).length
    have h2 := labels_len s
    have h3 : ((labelsB s).drop k).length ≤ 901 := by simp; omega
    have h4 := Nat.mul_le_mul_right 901 h3
    omega
/-- A name is under another one. -/
def UnderP (s t : ByteArray) : Prop := ∃ k, k < (labelsB s).length + 1 ∧ likeB (restB s k) t = true
instance (s t : ByteArray) : Decidable (UnderP s t) := by unfold UnderP; infer_instance
def underB (s t : ByteArray) : Bool := decide (UnderP s t)
end Go.Proofs.Ytedmkdjijhflnaa
/- Contracts of the reference's layer 8: Bytes, SameBytes, Good. -/
namespace Go.Proofs.Ytedmkdjijhflnaa
open Go.RowKit
set_option linter.unusedVariables false
set_option maxRecDepth 20000

/-- A label's bytes. -/
def labL (p : ByteArray) : List UInt8 := UInt8.ofNat p.size :: p.data.toList
def bytesTo (l : List ByteArray) : Nat → List UInt8
  | 0 => []
  | k + 1 => bytesTo l k ++ labL (l.getD k ⟨#[]⟩)
/-- A name's bytes. -/
def bytesL (l : List ByteArray) : List UInt8 := bytesTo l l.length ++ [0]
theorem bytesTo_len {l : List ByteArray} (h : ∀ p ∈ l, p.size ≤ 255) : ∀ k, (bytesTo l k).length ≤ k * 256
  | 0 => by simp [bytesTo]
  | k + 1 => by
    have h1 := bytesTo_len h k
    have h2 := getD_small h k
    unfold bytesTo labL
    have h3 : (l.getD k ⟨#[]⟩).data.toList.length = (l.getD k ⟨#[]⟩).size := Array.length_toList
    rw [List.length_append, List.length_cons, h3]
    omega
/-- A row of one's own, over a lower base. -/
theorem own_lower8 {w : World} {B B' : Nat} {t : TypeId} {z : Nat} {v : Value} {n : Nat} {xs : List Value} (h : w.ownsRow B t z v n xs) (hB : B' ≤ B) : w.ownsRow B' t z v n xs := by
  obtain ⟨h1, h2⟩ := h
  refine ⟨h1, ?_⟩
  rcases h2 with h2 | ⟨g, cap, cur, e, hb, rest⟩
  · exact .inl h2
  · exact .inr ⟨g, cap, cur, e, by omega, rest⟩
/-- A text's bytes behind a row of bytes of one's own. -/
theorem own_text {w0 wr w1 : World} {v v' : Value} {l : List UInt8} {s : ByteArray} (hown' : w1.ownsRow w0.heap.size 5 1 v' (l.length + s.size) (bys l ++ Lib.strCells s))
    (hg : wr.grownBy w1 v.ownBlock) (hown : wr.ownsRow w0.heap.size 5 1 v l.length (bys l)) (hb : Below w0.heap.size w0 wr) :
    w1.ownsRow w0.heap.size 5 1 v' (l ++ s.data.toList).length (bys (l ++ s.data.toList)) ∧ Below w0.heap.size w0 w1 := by
  refine ⟨?_, hb.grown hg hb.size (fun k hk => (hown.lt k hk).1)⟩
  have e : bys (l ++ s.data.toList) = bys l ++ Lib.strCells s := by simp [bys, Lib.strCells]
  rw [e, List.length_append, Array.length_toList]
  exact hown'
end Go.Proofs.Ytedmkdjijhflnaa
/- Contracts of the reference's layer 8: SameBytes, Good. -/
namespace Go.Proofs.Ytedmkdjijhflnaa
open Go.RowKit
set_option linter.unusedVariables false
set_option maxRecDepth 20000

/-- These are a slice's bytes (as a conversion to a text reads them). -/
def BytesAt (w : World) (v : Value) (l : List UInt8) : Prop := (convert 115 9 v).run Try.prog w = .ok (.string ⟨l.toArray⟩) w
/-- The labels of a name made good. -/
def goodTo (l : List ByteArray) : Nat → List ByteArray
  | 0 => []
  | k + 1 => if 6 ≤ (goodTo l k).length then goodTo l k else if (few (l.getD k ⟨#[]⟩) 12).size = 0 then goodTo l k else goodTo l k ++ [few (l.getD k ⟨#[]⟩) 12]
theorem goodTo_len (l : List ByteArray) : ∀ k, (goodTo l k).length ≤ 6
  | 0 => by simp [goodTo]
  | k + 1 => by
    have h := goodTo_len l k
    unfold goodTo
    split
    · exact h
    · split
      · exact h
      · simp; omega
theorem goodTo_small (l : List ByteArray) : ∀ k, ∀ p ∈ goodTo l k, p.size ≤ 12
  | 0 => by simp [goodTo]
  | k + 1 => by
    have h := goodTo_small l k
    unfold goodTo
    split
    · exact h
    · split
      · exact h
      · intro p hp
        rcases List.mem_append.1 hp with hp | hp
        · exact h p hp
        · rw [List.mem_singleton.1 hp]; exact few_size _ _
theorem goodTo_full {l : List ByteArray} {k : Nat} (h : 6 ≤ (goodTo l k).length) : ∀ m, goodTo l (k + m) = goodTo l k
  | 0 => rfl
  | m + 1 => by
    have e := goodTo_full h m
    rw [← Nat.add_assoc]
    show (if 6 ≤ (goodTo l (k + m)).length then goodTo l (k + m) else _) = _
    rw [e, if_pos h]
/-- A name made good. -/
def goodN (s : ByteArray) : ByteArray := joinB (goodTo (labelsB s) (labelsB s).length) ⟨#[46]⟩
theorem goodN_small (s : ByteArray) : (goodN s).size ≤ 100 := by
  have h1 := joinTo_le (goodTo_small (labelsB s) (labelsB s).length) (goodTo (labelsB s) (labelsB s).length).length
  have h2 := goodTo_len (labelsB s) (labelsB s).length
  unfold goodN joinB
  omega
end Go.Proofs.Ytedmkdjijhflnaa
/- Contracts of the reference's layer 8: Run (and Has of layer 1). -/
namespace Go.Proofs.Ytedmkdjijhflnaa
open Go.RowKit
set_option linter.unusedVariables false
set_option maxRecDepth 20000

/-- One of the first k bytes of a text is c. -/
def hasTo (s : ByteArray) (c : Nat) : Nat → Bool
  | 0 => false
  | k + 1 => hasTo s c k || decide ((s.data.toList.getD k 0).toNat = c)
def has8 (s : ByteArray) (c : Nat) : Bool := hasTo s c s.size
theorem hasTo_mono {s : ByteArray} {c k : Nat} (h : hasTo s c k = true) : ∀ m, hasTo s c (k + m) = true
  | 0 => h
  | m + 1 => by rw [← Nat.add_assoc, hasTo, hasTo_mono h m]; rfl
theorem getD_byte (s : ByteArray) (k : Nat) (h : k < s.size) : s.data.toList.getD k 0 = s[k] := by
  rw [List.getD_eq_getElem?_getD, List.getElem?_eq_getElem (by simpa using h)]; rfl
/-- Bytes that came in, as a walk reads them. -/
def BytesIn (w : World) (a : Option Addr) (cap : Nat) (bs : List UInt8) : Prop :=
  bs.length ≤ cap ∧ cap ≤ maxLen ∧ (bs.length = 0 ∨ ∃ x : Addr, a = some x ∧ ∀ i (h : i < bs.length), w.cell? (x.add i) = some (.int .u8 ((bs[i].toNat : Nat) : Int)))
theorem BytesIn.below {w w' : World} {a : Option Addr} {cap : Nat} {bs : List UInt8} (h : BytesIn w a cap bs) (hb : Below w.heap.size w w') : BytesIn w' a cap bs := by
  obtain ⟨h1, h2, h3⟩ := h
  refine ⟨h1, h2, ?_⟩
  rcases h3 with h3 | ⟨x, e, h3⟩
  · exact .inl h3
  · exact .inr ⟨x, e, fun i hi => by rw [hb.cell (p := x.add i) (World.block_lt_of_cell? w _ (h3 i hi))]; exact h3 i hi⟩
/-- The label that stands at i, of n bytes. -/
def ownAt (bs : List UInt8) (i n : Nat) : ByteArray := ⟨((bs.drop (i + 1)).take n).toArray⟩
theorem ownAt_size {bs : List UInt8} {i n : Nat} (h : i + 1 + n ≤ bs.length) : (ownAt bs i n).size = n := by
  show ((bs.drop (i + 1)).take n).toArray.size = n
  simp; omega
def runB (bs : List UInt8) (had : Nat) : Nat → Nat → List ByteArray → List ByteArray × Nat × Bool × Int
  | 0, _, _ => ([], 0, false, 2)
  | f + 1, i, l =>
    if bs.length ≤ i then ([], 0, false, 2) else
    if (bs.getD i 0).toNat = 0 then (l, i, false, 0) else
    if 192 ≤ (bs.getD i 0).toNat then (l, i, true, 0) else
    if 63 < (bs.getD i 0).toNat ∨ bs.length < i + 1 + (bs.getD i 0).toNat then ([], 0, false, 2) else
    if has8 (ownAt bs i (bs.getD i 0).toNat) 46 = true then ([], 0, false, 2) else
    if 255 < had + sizeL (l ++ [ownAt bs i (bs.getD i 0).toNat]) then ([], 0, false, 3) else
    runB bs had f (i + 1 + (bs.getD i 0).toNat) (l ++ [ownAt bs i (bs.getD i 0).toNat])
/-- What Run hands back. -/
def RunRet (w : World) (R : List ByteArray × Nat × Bool × Int) (e : Ending) (w' : World) : Prop :=
  ∃ v, e = .returned (.tuple #[v, .int .i64 (R.2.1 : Int), .bool R.2.2.1, .int .i64 R.2.2.2]) ∧ w'.ownsRow w.heap.size 9 1 v R.1.length (R.1.map Value.string) ∧ Below w.heap.size w w'
theorem own_RowS {w : World} {B : Nat} {v : Value} {l : List ByteArray} (h : w.ownsRow B 9 1 v l.length (l.map Value.string)) : ∃ a c, v = .slice a l.length c ∧ (RowS w a c l ∨ l = []) := by
  by_cases h0 : 0 < l.length
  · obtain ⟨g, c, rfl, _, hr⟩ := own_row h h0
    exact ⟨_, _, rfl, .inl (.inr ⟨g, rfl, hr⟩)⟩
  · obtain rfl : l = [] := List.eq_nil_of_length_eq_zero (by omega)
    rcases h.2 with ⟨rfl, _⟩ | ⟨g, cap, cur, rfl, _⟩
    · exact ⟨_, _, rfl, .inr rfl⟩
    · exact ⟨_, _, rfl, .inr rfl⟩
end Go.Proofs.Ytedmkdjijhflnaa
/- Appends to rows of one's own, with their footprints: bytes, texts, numbers; a text's bytes. -/
namespace Go.Proofs.Ytedmkdjijhflnaa
open Go.RowKit
set_option linter.unusedVariables false
set_option maxRecDepth 20000

/-- Where a row lies when a text's bytes are behind it: where it lay, or in the newest block. -/
theorem text_block {P : Program} {w : World} {base : Nat} {t u ty e : TypeId} {i : TypeInfo} (ht : P.underlying t = some (.slice e)) (hu : P.underlying u = some .string) (hi : P.info? e = some i) (hz : i.zero = some (.int .u8 0)) (hsize : i.size = 1) (hby : i.bytes = 1)
    {v : Value} {n : Nat} {xs : List Value} (hown : w.ownsRow base e 1 v n xs) (s : ByteArray) (hn : n + s.size ≤ 1000000000) {v' : Value} {w' : World} (hr : (Builtin.append_ #[t, u] ty #[v, .string s]).run P w = .ok v' w') : v'.ownBlock = v.ownBlock ∨ v'.ownBlock = some w.heap.size := by
  have hxl : xs.length = n := by simpa using hown.1
  rcases hown.2 with ⟨rfl, rfl⟩ | ⟨g, cap, cur, rfl, hbg, hg, hnc, hcm, hcs, htake⟩
  · by_cases hm : s.size = 0
    · have hf := Lib.run_firstCells_string (P := P) w 1 s
      rw [hm] at hf
      have h2 : (Builtin.append_ #[t, u] ty #[.slice none 0 0, .string s]).run P w = .ok (.slice none 0 0) w := by
        simp [Builtin.append_, run_underlying ht, run_underlying hu, sizeOf, typeInfo, hi, hsize, Builtin.lenOf, hm, hf]
      rw [h2] at hr
      cases hr
      exact .inl rfl
    · have h2 := run_append_nil_string (P := P) w t u ty e i (.int .u8 0) ht hu hi hz s (by omega) (by omega) (by rw [hby]; omega)
      rw [h2] at hr
      cases hr
      exact .inr rfl
  · by_cases hroom : n + s.size ≤ cap
    · have hcs' : cur.size = cap := by simpa using hcs
      have h2 := Lib.run_append_room_string (P := P) w t u ty e i ht hu hi hsize g n cap cur hg s hroom (by omega)
      rw [h2] at hr
      cases hr
      exact .inl rfl
    · have holds : ∀ j u, xs[j]? = some u → w.cell? ((⟨g, 0, none⟩ : Addr).add j) = some u := hown.cells (g := g) rfl
      have h2 := Lib.run_append_grow_string (P := P) w t u ty e i (.int .u8 0) ht hu hi hz ⟨g, 0, none⟩ n cap xs (by rw [hsize]; simpa using hxl) holds s (by omega) (by omega) (by rw [hby]; exact growslice_fits (by omega) (by omega))
      rw [h2] at hr
      cases hr
      exact .inr rfl
/-- A text's bytes behind a row of bytes of one's own. -/
theorem wp_append_text {op : Oper} {a : Act} {w : World} {K : Act → World → Prop} {Q : Exit → Act → World → Prop} {B : Nat} {v : Value} {l : List UInt8} {s : ByteArray} (hown : Hid (w.ownsRow B 5 1 v l.length (bys l))) (hn : Hid (l.length + s.size ≤ 1000000000 ∧ B ≤ w.heap.size)) (sl x : Operand)
    (ho : op.op = .call { callee := .builtin .append, args := #[sl, x], argTypes := #[115, 9] }) (hs : a.eval sl = v) (hx : a.eval x = .string s)
    (h : ∀ v' w', Hid (w'.ownsRow B 5 1 v' (l ++ s.data.toList).length (bys (l ++ s.data.toList))) → Hid (w.grownBy w' v.ownBlock) → Hid (Foot v.ownBlock.toList v'.ownBlock.toList w w') → K (a.put op.dst v') w') : op.wp Try.prog a w K Q := by
  obtain ⟨i0, hi0, hz0, hz1, hz2⟩ := info_parts Try.infoByte
  obtain ⟨hn1, hn2⟩ := hn.out
  obtain ⟨v', w', hr, h2, h3, _⟩ := Lib.run_append_own_string (P := Try.prog) w B 115 9 op.type 5 i0 Try.underlying115 Try.underlying9 hi0 hz0 hz1 hz2 v l.length (bys l) hown.out s (by unfold maxLen; omega) (by omega) hn2
  have h5 := text_block Try.underlying115 Try.underlying9 hi0 hz0 hz1 hz2 hown.out s hn1 hr
  unfold Oper.wp execOp
  simp only [ho, resolve, invoke, builtin, Sem.run_bind, Sem.run_pure, Result.andThen_ok, List.map_toArray, List.map_cons, List.map_nil, hs, hx, hr]
  refine h v' w' (Lib.hid ?_) (Lib.hid h3) (Lib.hid (Foot.ofGrown h3 (h5.imp id (fun e g hg => by rw [e] at hg; cases hg; exact Nat.le_refl _))))
  have e1 : bys (l ++ s.data.toList) = bys l ++ Lib.strCells s := by simp [bys, Lib.strCells]
  have e2 : s.data.toList.length = s.size := Array.length_toList
  rw [e1, List.length_append, e2]
  exact h2
/-- Bytes that lie somewhere, behind a row of bytes of one's own. -/
theorem wp_append_bytes {op : Oper} {a : Act} {w : World} {K : Act → World → Prop} {Q : Exit → Act → World → Prop} {B G c : Nat} {v : Value} {l m : List UInt8} (hown : Hid (w.ownsRow B 5 1 v l.length (bys l))) (hm : Hid (∀ j u, (bys m)[j]? = some u → w.cell? ⟨G, j, none⟩ = some u)) (hn : Hid (l.length + m.length ≤ 1000000000 ∧ B ≤ w.heap.size)) (sl x : Operand)
    (ho : op.op = .call { callee := .builtin .append, args := #[sl, x], argTypes := #[115, 115] }) (hs : a.eval sl = v) (hx : a.eval x = .slice (some ⟨G, 0, none⟩) m.length c)
    (h : ∀ v' w', Hid (w'.ownsRow B 5 1 v' (l ++ m).length (bys (l ++ m))) → Hid (w.grownBy w' v.ownBlock) → Hid (Foot v.ownBlock.toList v'.ownBlock.toList w w') → K (a.put op.dst v') w') : op.wp Try.prog a w K Q := by
  obtain ⟨i0, hi0, hz0, hz1, hz2⟩ := info_parts Try.infoByte
  obtain ⟨hn1, hn2⟩ := hn.out
  obtain ⟨v', w', hr, h2, h3, _, h5⟩ := run_append_own_at (P := Try.prog) w B 115 op.type 5 i0 _ 1 1 Try.underlying115 hi0 hz0 hz1 hz2 rfl (by decide) v l.length (bys l) hown.out ⟨G, 0, none⟩ m.length c (bys m) (by rw [bys_length, Nat.mul_one]) (fun j u hu => by rw [add_none]; exact hm.out j u hu) (fun u hu => by
    obtain ⟨q, _, rfl⟩ := List.mem_map.1 hu
    rfl) (by unfold maxLen; omega) (by omega) hn2
  unfold Oper.wp execOp
  simp only [ho, resolve, invoke, builtin, Sem.run_bind, Sem.run_pure, Result.andThen_ok, List.map_toArray, List.map_cons, List.map_nil, hs, hx, hr]
  refine h v' w' (Lib.hid ?_) (Lib.hid h3) (Lib.hid (Foot.ofGrown h3 (h5.imp id (fun e g hg => by rw [e] at hg; cases hg; exact Nat.le_refl _))))
  have e1 : bys (l ++ m) = bys l ++ bys m := by simp [bys]
  rw [e1, List.length_append]
  exact h2
/-- A text behind a row of texts of one's own. -/
theorem wp_append_str {op : Oper} {a : Act} {w : World} {K : Act → World → Prop} {Q : Exit → Act → World → Prop} {B G c : Nat} {v : Value} {l : List ByteArray} {p : ByteArray} (hown : Hid (w.ownsRow B 9 1 v l.length (l.map Value.string))) (hm : Hid (w.cell? ⟨G, 0, none⟩ = some (.string p))) (hn : Hid (l.length ≤ 2000000 ∧ B ≤ w.heap.size)) (sl x : Operand)
    (ho : op.op = .call { callee := .builtin .append, args := #[sl, x], argTypes := #[37, 37] }) (hs : a.eval sl = v) (hx : a.eval x = .slice (some ⟨G, 0, none⟩) 1 c)
    (h : ∀ v' w', Hid (w'.ownsRow B 9 1 v' (l ++ [p]).length ((l ++ [p]).map Value.string)) → Hid (w.grownBy w' v.ownBlock) → Hid (Foot v.ownBlock.toList v'.ownBlock.toList w w') → K (a.put op.dst v') w') : op.wp Try.prog a w K Q := by
  obtain ⟨i0, hi0, hz0, hz1, hz2⟩ := info_parts Try.infoString
  obtain ⟨hn1, hn2⟩ := hn.out
  obtain ⟨v', w', hr, h2, h3, _, h5⟩ := run_append_own_at (P := Try.prog) w B 37 op.type 9 i0 _ 1 16 Try.underlying37 hi0 hz0 hz1 hz2 rfl (by decide) v l.length (l.map Value.string) hown.out ⟨G, 0, none⟩ 1 c [.string p] rfl (fun j u hu => by
      match j, hu with
      | 0, hu => rw [add_none, hm.out]; exact hu
      | j + 1, hu => simp at hu) (fun u hu => by rw [List.mem_singleton.1 hu]; rfl) (by unfold maxLen; omega) (by omega) hn2
  unfold Oper.wp execOp
  simp only [ho, resolve, invoke, builtin, Sem.run_bind, Sem.run_pure, Result.andThen_ok, List.map_toArray, List.map_cons, List.map_nil, hs, hx, hr]
  refine h v' w' (Lib.hid ?_) (Lib.hid h3) (Lib.hid (Foot.ofGrown h3 (h5.imp id (fun e g hg => by rw [e] at hg; cases hg; exact Nat.le_refl _))))
  simpa using h2
end Go.Proofs.Ytedmkdjijhflnaa
/- Bytes that came in: opened, cut, put behind bytes of one's own. -/
namespace Go.Proofs.Ytedmkdjijhflnaa
open Go.RowKit
set_option linter.unusedVariables false
set_option maxRecDepth 20000

/-- A row of numbers that came in. -/
def IsRow (k : IntKind) (W : World) (a : Option Addr) (len cap : Nat) (zs : List Int) : Prop :=
  (a = none ∧ len = 0 ∧ cap = 0 ∧ zs = []) ∨ ∃ x : Addr, a = some x ∧ len ≤ cap ∧ cap ≤ maxLen ∧ zs.length = cap ∧ (∀ i, i < zs.length → W.cell? (x.add i) = some (.int k (zs.getD i 0))) ∧ ∀ n ∈ zs, (Lit.int k n).wf = true
theorem u8_of {n : Int} (h : (Lit.int .u8 n).wf = true) : ((UInt8.ofNat n.toNat).toNat : Int) = n := by
  have hb : 0 ≤ n ∧ n < 256 := by
    have := h
    simp [Lit.wf] at this
    have e1 : IntKind.u8.min = 0 := rfl
    have e2 : IntKind.u8.max = 255 := rfl
    omega
  rw [UInt8.toNat_ofNat', Nat.mod_eq_of_lt (by omega)]
  omega
/-- Bytes that came in, and of which no nil row has room. -/
def BytesIn2 (w : World) (a : Option Addr) (cap : Nat) (bs : List UInt8) : Prop := BytesIn w a cap bs ∧ (a = none → cap = 0)
theorem bytes_of_row {W : World} {a : Option Addr} {len cap : Nat} {zs : List Int} (h : IsRow .u8 W a len cap zs) : ∃ bs : List UInt8, bs.length = len ∧ BytesIn2 W a cap bs := by
  rcases h with ⟨rfl, rfl, rfl, rfl⟩ | ⟨x, rfl, h1, h2, h3, h4, h5⟩
  · exact ⟨[], rfl, ⟨Nat.le_refl _, Nat.zero_le _, .inl rfl⟩, fun _ => rfl⟩
  · refine ⟨(zs.take len).map (fun n => UInt8.ofNat n.toNat), by simp; omega, ⟨by simp; omega, h2, .inr ⟨x, rfl, fun i hi => ?_⟩⟩, fun h => by cases h⟩
    have hi2 : i < len := by simp at hi; omega
    have hi3 : i < zs.length := by omega
    rw [h4 i hi3, List.getElem_map, List.getElem_take, u8_of (h5 _ (List.getElem_mem hi3)), List.getD_eq_getElem?_getD, List.getElem?_eq_getElem hi3]
    rfl
theorem BytesIn2.below {w w' : World} {a : Option Addr} {cap : Nat} {bs : List UInt8} (h : BytesIn2 w a cap bs) (hb : Below w.heap.size w w') : BytesIn2 w' a cap bs := ⟨h.1.below hb, h.2⟩
theorem BytesIn2.take {w : World} {a : Option Addr} {cap : Nat} {bs : List UInt8} (h : BytesIn2 w a cap bs) (m : Nat) : BytesIn2 w a cap (bs.take m) := by
  obtain ⟨⟨h1, h2, h3⟩, h4⟩ := h
  refine ⟨⟨by rw [List.length_take]; omega, h2, ?_⟩, h4⟩
  rcases h3 with h3 | ⟨x, e, h3⟩
  · exact .inl (by rw [List.length_take]; omega)
  · refine .inr ⟨x, e, fun i hi => ?_⟩
    rw [List.length_take] at hi
    rw [h3 i (by omega), List.getElem_take]
/-- Bytes of one's own, as bytes that came in are read. -/
theorem in_own {w : World} {B : Nat} {v : Value} {l : List UInt8} (h : w.ownsRow B 5 1 v l.length (bys l)) : ∃ a c, v = .slice a l.length c ∧ BytesIn2 w a c l := by
  rcases h.2 with ⟨rfl, h2⟩ | ⟨g, cap, cur, h1, _, _, h3, h4, _⟩
  · exact ⟨none, 0, by rw [h2], ⟨by omega, Nat.zero_le _, .inl h2⟩, fun _ => rfl⟩
  · subst h1
    refine ⟨_, _, rfl, ⟨h3, h4, .inr ⟨⟨g, 0, none⟩, rfl, fun i hi => ?_⟩⟩, fun h => by cases h⟩
    refine h.cells (g := g) rfl i _ ?_
    unfold bys
    rw [List.getElem?_map, List.getElem?_eq_getElem hi]
    rfl
/-- Bytes that came in, put behind bytes of one's own. -/
theorem wp_append_in {op : Oper} {a : Act} {w : World} {K : Act → World → Prop} {Q : Exit → Act → World → Prop} {B c : Nat} {v : Value} {ad : Option Addr} {l m : List UInt8} (hown : Hid (w.ownsRow B 5 1 v l.length (bys l))) (hm : Hid (BytesIn2 w ad c m)) (hn : Hid (l.length + m.length ≤ 1000000000 ∧ B ≤ w.heap.size)) (sl x : Operand)
    (ho : op.op = .call { callee := .builtin .append, args := #[sl, x], argTypes := #[115, 115] }) (hs : a.eval sl = v) (hx : a.eval x = .slice ad m.length c)
    (h : ∀ v' w', Hid (w'.ownsRow B 5 1 v' (l ++ m).length (bys (l ++ m))) → Hid (w.grownBy w' v.ownBlock) → Hid (Foot v.ownBlock.toList v'.ownBlock.toList w w') → K (a.put op.dst v') w') : op.wp Try.prog a w K Q := by
  obtain ⟨i0, hi0, hz0, hz1, hz2⟩ := info_parts Try.infoByte
  obtain ⟨hn1, hn2⟩ := hn.out
  obtain ⟨⟨hm1, hm2, hm3⟩, hm4⟩ := hm.out
  cases ad with
  | none =>
    have hc0 := hm4 rfl
    subst hc0
    obtain rfl : m = [] := List.eq_nil_of_length_eq_zero (by omega)
    have hr := run_append_owned_none (P := Try.prog) (w := w) B 115 op.type 5 i0 1 Try.underlying115 hi0 v l.length _ hown.out
    unfold Oper.wp execOp
    simp only [ho, resolve, invoke, builtin, Sem.run_bind, Sem.run_pure, Result.andThen_ok, List.map_toArray, List.map_cons, List.map_nil, hs, hx, List.length_nil, hr]
    refine h v w (Lib.hid (by rw [List.append_nil]; exact hown.out)) (Lib.hid ⟨rfl, rfl, rfl, Nat.le_refl _, fun i _ _ => rfl⟩) (Lib.hid (Foot.ofBelow _ (Below.refl _ _)))
  | some y =>
    obtain ⟨v', w', hr, h2, h3, _, h5⟩ := run_append_own_at (P := Try.prog) w B 115 op.type 5 i0 _ 1 1 Try.underlying115 hi0 hz0 hz1 hz2 rfl (by decide) v l.length (bys l) hown.out y m.length c (bys m) (by rw [bys_length, Nat.mul_one]) (fun j u hu => by
      have hj : j < m.length := by
        have := (List.getElem?_eq_some_iff.1 hu).1
        rwa [bys_length] at this
      rcases hm3 with h0 | ⟨x2, e, hc⟩
      · omega
      · cases e
        rw [hc j hj]
        unfold bys at hu
        rw [List.getElem?_map, List.getElem?_eq_getElem hj] at hu
        exact hu) (fun u hu => by
      obtain ⟨q, _, rfl⟩ := List.mem_map.1 hu
      rfl) (by unfold maxLen; omega) (by omega) hn2
    unfold Oper.wp execOp
    simp only [ho, resolve, invoke, builtin, Sem.run_bind, Sem.run_pure, Result.andThen_ok, List.map_toArray, List.map_cons, List.map_nil, hs, hx, hr]
    refine h v' w' (Lib.hid ?_) (Lib.hid h3) (Lib.hid (Foot.ofGrown h3 (h5.imp id (fun e g hg => by rw [e] at hg; cases hg; exact Nat.le_refl _))))
    have e1 : bys (l ++ m) = bys l ++ bys m := by simp [bys]
    rw [e1, List.length_append]
    exact h2
end Go.Proofs.Ytedmkdjijhflnaa
/- Contract of the reference's Run of layer 8. -/
namespace Go.Proofs.Ytedmkdjijhflnaa
open Go.RowKit
set_option linter.unusedVariables false
set_option maxRecDepth 20000

theorem add_add (x : Addr) (i j : Nat) : (x.add i).add j = x.add (i + j) := by
  cases x with
  | mk b o p =>
    by_cases hi : i = 0
    · subst hi; simp [Addr.add]
    · by_cases hj : j = 0
      · subst hj; simp [Addr.add]
      · simp [Addr.add, hi, hj, Nat.add_assoc]
theorem results_tmp4 {fn : Func} {t u v x : Tmp} (h : fn.results = #[.tmp t, .tmp u, .tmp v, .tmp x]) (tmps : Array Value) (P : Program) (w : World) :
    (results fn tmps).run P w = .ok (.tuple #[tmps.getD t undef, tmps.getD u undef, tmps.getD v undef, tmps.getD x undef]) w := by
  simp [results, h]
/-- 'string(b[i+1:i+1+n])'. -/
theorem own_text_at {w : World} {x : Addr} {bs : List UInt8} {i n : Nat} (c : Nat) (h : ∀ j (h : j < bs.length), w.cell? (x.add j) = some (.int .u8 ((bs[j].toNat : Nat) : Int))) (hn : i + 1 + n ≤ bs.length) :
    (convert 115 9 (.slice (some (x.add (i + 1))) n c)).run Try.prog w = .ok (.string (ownAt bs i n)) w := by
  have hl : ((bs.drop (i + 1)).take n).length = n := by simp; omega
  have := run_convert_bytes_back (P := Try.prog) w 115 9 5 (x.add (i + 1)) c ((bs.drop (i + 1)).take n) Try.underlying115 Try.underlying5 Try.underlying9 (fun j hj => by
    rw [add_add, h (i + 1 + j) (by omega)]
    simp)
  rw [hl] at this
  exact this
end Go.Proofs.Ytedmkdjijhflnaa
/- What the reference's Read of layer 8 tells; plain facts on it. -/
namespace Go.Proofs.Ytedmkdjijhflnaa
open Go.RowKit
set_option linter.unusedVariables false
set_option maxRecDepth 20000

theorem sizeTo_app (l m : List ByteArray) : ∀ k, k ≤ l.length → sizeTo (l ++ m) k = sizeTo l k
  | 0, _ => rfl
  | k + 1, h => by
    unfold sizeTo
    rw [sizeTo_app l m k (by omega)]
    congr 2
    rw [List.getD_eq_getElem?_getD, List.getD_eq_getElem?_getD, List.getElem?_append_left (by omega)]
theorem sizeTo_app2 (l m : List ByteArray) : ∀ k, sizeTo (l ++ m) (l.length + k) + 1 = sizeL l + sizeTo m k
  | 0 => by
    show sizeTo (l ++ m) l.length + 1 = sizeL l + 1
    rw [sizeTo_app l m l.length (Nat.le_refl _)]
    rfl
  | k + 1 => by
    have ih := sizeTo_app2 l m k
    have e1 : sizeTo (l ++ m) (l.length + (k + 1)) = sizeTo (l ++ m) (l.length + k) + 1 + ((l ++ m).getD (l.length + k) ⟨#[]⟩).size := rfl
    have e2 : sizeTo m (k + 1) = sizeTo m k + 1 + (m.getD k ⟨#[]⟩).size := rfl
    have e3 : (l ++ m).getD (l.length + k) ⟨#[]⟩ = m.getD k ⟨#[]⟩ := by
      rw [List.getD_eq_getElem?_getD, List.getD_eq_getElem?_getD, List.getElem?_append_right (by omega)]
      congr 2
      omega
    rw [e1, e2, e3]
    omega
/-- How many bytes two rows of labels have. -/
theorem sizeL_app (l m : List ByteArray) : sizeL (l ++ m) + 1 = sizeL l + sizeL m := by
  have := sizeTo_app2 l m m.length
  unfold sizeL at this ⊢
  rw [List.length_append]
  exact this
theorem sizeTo_pos (l : List ByteArray) : ∀ k, 1 + k ≤ sizeTo l k
  | 0 => Nat.le_refl _
  | k + 1 => by have := sizeTo_pos l k; unfold sizeTo; omega
theorem sizeL_pos (l : List ByteArray) : 1 + l.length ≤ sizeL l := sizeTo_pos l l.length
theorem sizeTo_mono (l : List ByteArray) (k : Nat) : ∀ m, sizeTo l k ≤ sizeTo l (k + m)
  | 0 => Nat.le_refl _
  | m + 1 => by
    have h := sizeTo_mono l k m
    have e : sizeTo l (k + (m + 1)) = sizeTo l (k + m) + 1 + (l.getD (k + m) ⟨#[]⟩).size := rfl
    omega
/-- A label is shorter than all. -/
theorem piece_le (l : List ByteArray) : ∀ p ∈ l, p.size ≤ sizeL l := by
  intro p hp
  obtain ⟨k, hk, rfl⟩ := List.getElem_of_mem hp
  have h1 := sizeTo_mono l (k + 1) (l.length - (k + 1))
  rw [show k + 1 + (l.length - (k + 1)) = l.length by omega] at h1
  have e : sizeTo l (k + 1) = sizeTo l k + 1 + (l.getD k ⟨#[]⟩).size := rfl
  have e2 : l.getD k ⟨#[]⟩ = l[k] := by rw [List.getD_eq_getElem?_getD, List.getElem?_eq_getElem hk]; rfl
  rw [e2] at e
  unfold sizeL
  omega
theorem joinTo_size (l : List ByteArray) : ∀ k, (joinTo l ⟨#[46]⟩ k).size + (if k = 0 then 1 else 2) ≤ sizeTo l k
  | 0 => Nat.le_refl _
  | k + 1 => by
    have h := joinTo_size l k
    have e : (joinTo l ⟨#[46]⟩ (k + 1)).size = (if 0 < k then (joinTo l ⟨#[46]⟩ k).size + 1 else (joinTo l ⟨#[46]⟩ k).size) + (l.getD k ⟨#[]⟩).size := by
      rw [joinTo, ByteArray.size_append]
      split
      · rw [ByteArray.size_append]; rfl
      · rfl
    have e2 : sizeTo l (k + 1) = sizeTo l k + 1 + (l.getD k ⟨#[]⟩).size := rfl
    rw [e, e2, if_neg (Nat.succ_ne_zero k)]
    split at h <;> split <;> omega
/-- A name is shorter than its bytes. -/
theorem joinB_size (l : List ByteArray) : (joinB l ⟨#[46]⟩).size ≤ sizeL l := by
  have := joinTo_size l l.length
  unfold joinB sizeL
  split at this <;> omega
/-- What Run tells of bytes where it tells no error. -/
theorem runB_ok (bs : List UInt8) (had : Nat) : ∀ f i l l2 e p, runB bs had f i l = (l2, e, p, 0) → had + sizeL l ≤ 255 →
    had + sizeL l2 ≤ 255 ∧ i ≤ e ∧ e < bs.length ∧ (p = true → 192 ≤ (bs.getD e 0).toNat)
  | 0, i, l, l2, e, p, h, _ => by unfold runB at h; cases h
  | f + 1, i, l, l2, e, p, h, hl => by
    unfold runB at h
    by_cases h1 : bs.length ≤ i
    · rw [if_pos h1] at h; cases h
    rw [if_neg h1] at h
    by_cases h2 : (bs.getD i 0).toNat = 0
    · rw [if_pos h2] at h
      obtain ⟨rfl, rfl, rfl⟩ : l = l2 ∧ i = e ∧ false = p := by simpa using h
      exact ⟨hl, Nat.le_refl _, by omega, fun h => by cases h⟩
    rw [if_neg h2] at h
    by_cases h3 : 192 ≤ (bs.getD i 0).toNat
    · rw [if_pos h3] at h
      obtain ⟨rfl, rfl, rfl⟩ : l = l2 ∧ i = e ∧ true = p := by simpa using h
      exact ⟨hl, Nat.le_refl _, by omega, fun _ => h3⟩
    rw [if_neg h3] at h
    by_cases h4 : 63 < (bs.getD i 0).toNat ∨ bs.length < i + 1 + (bs.getD i 0).toNat
    · rw [if_pos h4] at h; cases h
    rw [if_neg h4] at h
    by_cases h5 : has8 (ownAt bs i (bs.getD i 0).toNat) 46 = true
    · rw [if_pos h5] at h; cases h
    rw [if_neg h5] at h
    by_cases h6 : 255 < had + sizeL (l ++ [ownAt bs i (bs.getD i 0).toNat])
    · rw [if_pos h6] at h; cases h
    rw [if_neg h6] at h
    obtain ⟨a1, a2, a3, a4⟩ := runB_ok bs had f _ _ l2 e p h (by omega)
    exact ⟨a1, by omega, a3, a4⟩
/-- Where a pointer leads. -/
def toAt (bs : List UInt8) (e : Nat) : Nat := ((bs.getD e 0).toNat - 192) * 256 + (bs.getD (e + 1) 0).toNat
/-- What Read tells: the name, where what stands behind it begins, the error. -/
def readB (bs : List UInt8) : Nat → Nat → List ByteArray → Option Nat → ByteArray × Nat × Int
  | 0, _, _, _ => (⟨#[]⟩, 0, 2)
  | f + 1, i, l, nx =>
    match runB bs (sizeL l - 1) (bs.length + 1 - i) i [] with
    | (l2, e, p, er) =>
      if er ≠ 0 then (⟨#[]⟩, 0, er) else
      if p = false then (joinB (l ++ l2) ⟨#[46]⟩, nx.getD (e + 1), 0) else
      if bs.length ≤ e + 1 then (⟨#[]⟩, 0, 2) else
      if i ≤ toAt bs e then (⟨#[]⟩, 0, 2) else
      readB bs f (toAt bs e) (l ++ l2) (some (nx.getD (e + 2)))
end Go.Proofs.Ytedmkdjijhflnaa
/- Contract of the reference's Read of layer 8. -/
namespace Go.Proofs.Ytedmkdjijhflnaa
open Go.RowKit
set_option linter.unusedVariables false
set_option maxRecDepth 20000

theorem own_below8 {w w' : World} {B : Nat} {t : TypeId} {z : Nat} {v : Value} {n : Nat} {xs : List Value} (h : w.ownsRow B t z v n xs) (hb : Below w.heap.size w w') : w'.ownsRow B t z v n xs := by
  obtain ⟨h1, h2⟩ := h
  refine ⟨h1, ?_⟩
  rcases h2 with h2 | ⟨g, cap, cur, e, hB, hg, rest⟩
  · exact .inl h2
  · refine .inr ⟨g, cap, cur, e, hB, ?_, rest⟩
    rw [hb.block g (by
      rcases Nat.lt_or_ge g w.heap.size with h | h
      · exact h
      · rw [Array.getElem?_eq_none h] at hg; cases hg)]
    exact hg
/-- Texts behind a row of texts of one's own. -/
theorem own_more {w0 wr w1 : World} {v v' : Value} {l m : List ByteArray} (hown' : w1.ownsRow w0.heap.size 9 1 v' (l.length + m.length) (l.map Value.string ++ m.map Value.string))
    (hg : wr.grownBy w1 v.ownBlock) (hown : wr.ownsRow w0.heap.size 9 1 v l.length (l.map Value.string)) (hb : Below w0.heap.size w0 wr) :
    w1.ownsRow w0.heap.size 9 1 v' (l ++ m).length ((l ++ m).map Value.string) ∧ Below w0.heap.size w0 w1 := by
  refine ⟨by rw [List.length_append, List.map_append]; exact hown', hb.grown hg hb.size (fun k hk => (hown.lt k hk).1)⟩
def nxI : Option Nat → Int
  | none => -1
  | some n => (n : Int)
/-- One row of texts behind another one, both of one's own. -/
theorem append_own_own {ops : Array Oper} {rest : List Oper} {op : Oper} {a : Act} {w w0 : World} {Q : Exit → Act → World → Prop} {v v2 : Value} {l l2 : List ByteArray} {B2 : Nat} (hown : Hid (w.ownsRow w0.heap.size 9 1 v l.length (l.map Value.string))) (hown2 : Hid (w.ownsRow B2 9 1 v2 l2.length (l2.map Value.string))) (hb : Hid (Below w0.heap.size w0 w)) (hn : Hid (l.length ≤ 10000 ∧ l2.length ≤ 10000)) (s x : Operand) (hg : op.guard = none) (ho : op.op = .call { callee := .builtin .append, args := #[s, x], argTypes := #[37, 37] })
    (hs : a.eval s = v) (hx : a.eval x = v2) (h : ∀ v' W, Hid (W.ownsRow w0.heap.size 9 1 v' (l ++ l2).length ((l ++ l2).map Value.string)) → Hid (Below w0.heap.size w0 W) → wpList Try.prog ops Q rest (a.put op.dst v') W) : wpList Try.prog ops Q (op :: rest) a w := by
  obtain ⟨i0, hi0, hz0, hz1, hz2⟩ := info_parts Try.infoString
  have hnn := hn.out
  rcases hown2.out.2 with ⟨h1, h2⟩ | ⟨g, cap, cur, h1, _⟩
  · have hl2 : l2 = [] := List.eq_nil_of_length_eq_zero h2
    refine wpList_append_own_none hg s x 37 ho w0.heap.size 9 i0 1 Try.underlying37 hi0 v l.length _ hs hown.out (by rw [hx, h1]) ?_
    refine h v w (Lib.hid ?_) hb
    rw [hl2, List.append_nil]
    exact hown.out
  · have hcells : ∀ j u, (l2.map Value.string)[j]? = some u → w.cell? ((⟨g, 0, none⟩ : Addr).add j) = some u := by
      intro j u hu
      have hj : j < l2.length := by
        have := (List.getElem?_eq_some_iff.1 hu).1
        simpa using this
      have := own_cells (g := g) (n := l2.length) (c := cap) (B := B2) (l := l2) (by have := hown2.out; rw [h1] at this; exact this) j hj
      rw [add_none, this, ← hu]
      simp [hj]
    refine wpList_append_own _ hg s x 37 ho w0.heap.size 9 i0 _ 1 16 Try.underlying37 hi0 hz0 hz1 hz2 rfl (by decide) v l.length _ hs hown.out ⟨g, 0, none⟩ l2.length cap (l2.map Value.string) (by rw [hx, h1]) (by simp) hcells (fun u hu => by
        obtain ⟨q, _, rfl⟩ := List.mem_map.1 hu
        rfl) (by unfold maxLen; omega) (by omega) hb.out.size ?_
    intro v' w1 ho' hgr _
    have R := own_more ho' hgr hown.out hb.out
    exact h v' w1 (Lib.hid R.1) (Lib.hid R.2)
end Go.Proofs.Ytedmkdjijhflnaa
/- Contract of the reference's find of layer 8. -/
namespace Go.Proofs.Ytedmkdjijhflnaa
open Go.RowKit
set_option linter.unusedVariables false
set_option maxRecDepth 20000

/-- Numbers, ats cells. -/
def intsL (l : List Nat) : List Value := l.map fun n => Value.int .i64 ((n : Nat) : Int)
theorem Try.infoInt8 : (Try.prog.info? 3).map (fun i => (i.zero, i.size, i.bytes)) = some (some (.int .i64 0), 1, 8) := by kernel_rfl
/-- Where a name first began. -/
def find8 : List ByteArray → List Nat → ByteArray → Option Nat
  | n :: ns, a :: ats, x => if n = x then some a else find8 ns ats x
  | _, _, _ => none
theorem find8_at : ∀ (ns : List ByteArray) (ats : List Nat) (x : ByteArray) (k : Nat) (h : k < ns.length) (h2 : k < ats.length), ns[k] = x → (∀ j (hj : j < ns.length), j < k → ns[j] ≠ x) → find8 ns ats x = some ats[k]
  | [], _, _, _, h, _, _, _ => absurd h (by simp)
  | _ :: _, [], _, _, _, h2, _, _ => absurd h2 (by simp)
  | n :: ns, a :: ats, x, 0, _, _, he, _ => by unfold find8; rw [if_pos (show n = x from he)]; rfl
  | n :: ns, a :: ats, x, k + 1, h, h2, he, hn => by
    unfold find8
    rw [if_neg (show ¬ n = x from hn 0 (by simp) (by omega))]
    exact find8_at ns ats x k (by simpa using h) (by simpa using h2) he (fun j hj hk => hn (j + 1) (by simpa using hj) (by omega))
theorem find8_none : ∀ (ns : List ByteArray) (ats : List Nat) (x : ByteArray), (∀ j (hj : j < ns.length), ns[j] ≠ x) → find8 ns ats x = none
  | [], _, _, _ => by unfold find8; rfl
  | _ :: _, [], _, _ => by unfold find8; rfl
  | n :: ns, a :: ats, x, h => by
    unfold find8
    rw [if_neg (show ¬ n = x from h 0 (by simp))]
    exact find8_none ns ats x (fun j hj => h (j + 1) (by simpa using hj))
theorem find8_mem : ∀ (ns : List ByteArray) (ats : List Nat) (x : ByteArray) (n : Nat), find8 ns ats x = some n → n ∈ ats
  | [], _, _, _, h => by unfold find8 at h; cases h
  | _ :: _, [], _, _, h => by unfold find8 at h; cases h
  | m :: ns, a :: ats, x, n, h => by
    unfold find8 at h
    split at h
    · cases h; simp
    · exact List.mem_cons_of_mem _ (find8_mem ns ats x n h)
/-- A row of one's own of numbers, read. -/
theorem own_nums {w : World} {B : Nat} {v : Value} {l : List Nat} (h : w.ownsRow B 3 1 v l.length (intsL l)) : ∃ a c, v = .slice a l.length c ∧ (l.length = 0 ∨ ∃ g, a = some ⟨g, 0, none⟩ ∧ g < w.heap.size ∧ ∀ k (hk : k < l.length), w.cell? ⟨g, k, none⟩ = some (.int .i64 ((l[k] : Nat) : Int))) := by
  rcases h.2 with ⟨e1, e2⟩ | ⟨g, cap, cur, e1, e2, e3, e4, e5, e6, e7⟩
  · exact ⟨none, 0, by rw [e1, e2], .inl e2⟩
  · refine ⟨_, cap, e1, .inr ⟨g, rfl, ?_, fun k hk => ?_⟩⟩
    · apply Classical.byContradiction
      intro h
      rw [Array.getElem?_eq_none (by omega)] at e3
      cases e3
    · subst e1
      rw [World.ownsRow.cellAt h k (by omega)]
      unfold intsL
      simp [hk]
end Go.Proofs.Ytedmkdjijhflnaa
/- The reference's Name of layer 8: what it tells; rows kept beside appends. -/
namespace Go.Proofs.Ytedmkdjijhflnaa
open Go.RowKit
set_option linter.unusedVariables false
set_option maxRecDepth 20000

/-- What is written when a name is, from its i-th label on: the bytes, the names, their places. -/
def nm8 (s : ByteArray) (L : List ByteArray) : Nat → Nat → List UInt8 → List ByteArray → List Nat → List UInt8 × List ByteArray × List Nat
  | 0, _, l, ns, ats => (l, ns, ats)
  | f + 1, i, l, ns, ats =>
    if L.length ≤ i then (l ++ [0], ns, ats) else
    match find8 ns ats (restB s i) with
    | some n => (l ++ [UInt8.ofNat (192 + n / 256), UInt8.ofNat (n % 256)], ns, ats)
    | none => nm8 s L f (i + 1) (l ++ labL (L.getD i ⟨#[]⟩)) (if l.length < 16384 then ns ++ [restB s i] else ns) (if l.length < 16384 then ats ++ [l.length] else ats)
/-- A row of one's own stays where another block turned. -/
theorem own_kept {w w' : World} {B : Nat} {t : TypeId} {z : Nat} {v : Value} {n : Nat} {xs : List Value} (h : w.ownsRow B t z v n xs) (hk : ∀ g, v.ownBlock = some g → w'.heap[g]? = w.heap[g]?) : w'.ownsRow B t z v n xs := by
  obtain ⟨h1, h2⟩ := h
  refine ⟨h1, ?_⟩
  rcases h2 with h2 | ⟨g, cap, cur, e1, e2, e3, e4⟩
  · exact .inl h2
  · exact .inr ⟨g, cap, cur, e1, e2, (hk g (by rw [e1]; rfl)).trans e3, e4⟩
/-- Rows of other types lie in other blocks. -/
theorem own_types {w : World} {B B2 : Nat} {t t2 : TypeId} {z z2 : Nat} {v v2 : Value} {n n2 : Nat} {xs xs2 : List Value} (h : w.ownsRow B t z v n xs) (h2 : w.ownsRow B2 t2 z2 v2 n2 xs2) (ht : t ≠ t2) (g : Nat) (hg : v.ownBlock = some g) : v2.ownBlock ≠ some g := by
  intro hg2
  rcases h.2 with ⟨rfl, _⟩ | ⟨a, cap, cur, rfl, _, e3, _⟩
  · cases hg
  · rcases h2.2 with ⟨rfl, _⟩ | ⟨a2, cap2, cur2, rfl, _, e32, _⟩
    · cases hg2
    · cases hg
      cases hg2
      rw [e3] at e32
      cases e32
      exact ht rfl
theorem own_grown {w w' : World} {B B2 : Nat} {t t2 : TypeId} {z z2 : Nat} {v v2 : Value} {n n2 : Nat} {xs xs2 : List Value} (h : w.ownsRow B t z v n xs) (h2 : w.ownsRow B2 t2 z2 v2 n2 xs2) (ht : t ≠ t2) (hg : w.grownBy w' v.ownBlock) : w'.ownsRow B2 t2 z2 v2 n2 xs2 :=
  own_kept h2 (fun g hg2 => hg.block g (h2.lt g hg2).2 (fun e => own_types h h2 ht g e.symm hg2))
/-- The boxed W, and the three rows in it. -/
structure WBox (w : World) (b : Nat) (vB vN vA : Value) : Prop where
  c0 : w.cell? ⟨b, 0, none⟩ = some vB
  c1 : w.cell? ⟨b, 1, none⟩ = some vN
  c2 : w.cell? ⟨b, 2, none⟩ = some vA
  f0 : w.frozen? ⟨b, 0, none⟩ = false
  f1 : w.frozen? ⟨b, 1, none⟩ = false
  f2 : w.frozen? ⟨b, 2, none⟩ = false
theorem WBox.lt {w : World} {b : Nat} {vB vN vA : Value} (h : WBox w b vB vN vA) : b < w.heap.size := World.block_lt_of_cell? w ⟨b, 0, none⟩ h.c0
theorem WBox.kept {w w' : World} {b : Nat} {vB vN vA : Value} (h : WBox w b vB vN vA) (hk : w'.heap[b]? = w.heap[b]?) : WBox w' b vB vN vA :=
  ⟨(World.cell?_of_block (a := ⟨b, 0, none⟩) hk).trans h.c0, (World.cell?_of_block (a := ⟨b, 1, none⟩) hk).trans h.c1, (World.cell?_of_block (a := ⟨b, 2, none⟩) hk).trans h.c2, (World.frozen?_of_block (a := ⟨b, 0, none⟩) hk).trans h.f0, (World.frozen?_of_block (a := ⟨b, 1, none⟩) hk).trans h.f1, (World.frozen?_of_block (a := ⟨b, 2, none⟩) hk).trans h.f2⟩
theorem WBox.set0 {w : World} {b : Nat} {vB vN vA : Value} (h : WBox w b vB vN vA) (v : Value) : WBox (w.setCell ⟨b, 0, none⟩ v) b v vN vA :=
  ⟨World.cell?_setCell_same _ _ _ h.c0, (World.cell?_setCell_other _ _ _ _ (by intro h; injection h; omega)).trans h.c1, (World.cell?_setCell_other _ _ _ _ (by intro h; injection h; omega)).trans h.c2, by rw [World.frozen?_setCell]; exact h.f0, by rw [World.frozen?_setCell]; exact h.f1, by rw [World.frozen?_setCell]; exact h.f2⟩
theorem WBox.set1 {w : World} {b : Nat} {vB vN vA : Value} (h : WBox w b vB vN vA) (v : Value) : WBox (w.setCell ⟨b, 1, none⟩ v) b vB v vA :=
  ⟨(World.cell?_setCell_other _ _ _ _ (by intro h; injection h; omega)).trans h.c0, World.cell?_setCell_same _ _ _ h.c1, (World.cell?_setCell_other _ _ _ _ (by intro h; injection h; omega)).trans h.c2, by rw [World.frozen?_setCell]; exact h.f0, by rw [World.frozen?_setCell]; exact h.f1, by rw [World.frozen?_setCell]; exact h.f2⟩
theorem WBox.set2 {w : World} {b : Nat} {vB vN vA : Value} (h : WBox w b vB vN vA) (v : Value) : WBox (w.setCell ⟨b, 2, none⟩ v) b vB vN v :=
  ⟨(World.cell?_setCell_other _ _ _ _ (by intro h; injection h; omega)).trans h.c0, (World.cell?_setCell_other _ _ _ _ (by intro h; injection h; omega)).trans h.c1, World.cell?_setCell_same _ _ _ h.c2, by rw [World.frozen?_setCell]; exact h.f0, by rw [World.frozen?_setCell]; exact h.f1, by rw [World.frozen?_setCell]; exact h.f2⟩
end Go.Proofs.Ytedmkdjijhflnaa
/- What the reference's Name of layer 8 holds on its way: kept beside its calls and its appends. -/
namespace Go.Proofs.Ytedmkdjijhflnaa
open Go.RowKit
set_option linter.unusedVariables false
set_option maxRecDepth 20000

/-- A number behind a row of numbers of one's own. -/
theorem wp_append_num {op : Oper} {a : Act} {w : World} {K : Act → World → Prop} {Q : Exit → Act → World → Prop} {B G c : Nat} {v : Value} {l : List Nat} {p : Nat} (hown : Hid (w.ownsRow B 3 1 v l.length (intsL l))) (hm : Hid (w.cell? ⟨G, 0, none⟩ = some (.int .i64 (p : Int)))) (hn : Hid (l.length ≤ 2000000 ∧ B ≤ w.heap.size)) (sl x : Operand)
    (ho : op.op = .call { callee := .builtin .append, args := #[sl, x], argTypes := #[49, 49] }) (hs : a.eval sl = v) (hx : a.eval x = .slice (some ⟨G, 0, none⟩) 1 c)
    (h : ∀ v' w', Hid (w'.ownsRow B 3 1 v' (l ++ [p]).length (intsL (l ++ [p]))) → Hid (w.grownBy w' v.ownBlock) → Hid (Foot v.ownBlock.toList v'.ownBlock.toList w w') → K (a.put op.dst v') w') : op.wp Try.prog a w K Q := by
  obtain ⟨i0, hi0, hz0, hz1, hz2⟩ := info_parts Try.infoInt8
  obtain ⟨hn1, hn2⟩ := hn.out
  obtain ⟨v', w', hr, h2, h3, _, h5⟩ := run_append_own_at (P := Try.prog) w B 49 op.type 3 i0 _ 1 8 Try.underlying49 hi0 hz0 hz1 hz2 rfl (by decide) v l.length (intsL l) hown.out ⟨G, 0, none⟩ 1 c [.int .i64 (p : Int)] rfl (fun j u hu => by
      match j, hu with
      | 0, hu => rw [add_none, hm.out]; exact hu
      | j + 1, hu => simp at hu) (fun u hu => by rw [List.mem_singleton.1 hu]; rfl) (by unfold maxLen; omega) (by omega) hn2
  unfold Oper.wp execOp
  simp only [ho, resolve, invoke, builtin, Sem.run_bind, Sem.run_pure, Result.andThen_ok, List.map_toArray, List.map_cons, List.map_nil, hs, hx, hr]
  refine h v' w' (Lib.hid ?_) (Lib.hid h3) (Lib.hid (Foot.ofGrown h3 (h5.imp id (fun e g hg => by rw [e] at hg; cases hg; exact Nat.le_refl _))))
  simpa [intsL] using h2
abbrev nilS : Value := .slice none 0 0
def blk3 (vB vN vA : Value) : List Nat := vB.ownBlock.toList ++ vN.ownBlock.toList ++ vA.ownBlock.toList
theorem mem_blk3 {vB vN vA : Value} {k : Nat} : k ∈ blk3 vB vN vA ↔ vB.ownBlock = some k ∨ vN.ownBlock = some k ∨ vA.ownBlock = some k := by simp [blk3]
structure NSt (w : World) (B S0 : Nat) (F0 : List Nat) (aL : Option Addr) (cL : Nat) (L : List ByteArray) (wr : World) (vB vN vA : Value) (l : List UInt8) (ns : List ByteArray) (ats : List Nat) : Prop where
  box : WBox wr w.heap.size vB vN vA
  res : WBox wr (w.heap.size + 1) nilS nilS nilS
  rb : wr.ownsRow B 5 1 vB l.length (bys l)
  rn : wr.ownsRow B 9 1 vN ns.length (ns.map Value.string)
  ra : wr.ownsRow B 3 1 vA ats.length (intsL ats)
  lab : RowS wr aL cL L
  foot : Foot F0 (blk3 vB vN vA) w wr
  away : ∀ k ∈ blk3 vB vN vA, k < w.heap.size ∨ S0 ≤ k
  sz : S0 ≤ wr.heap.size
  base : B ≤ w.heap.size
  two : w.heap.size + 1 < S0
  fresh : ∀ g, aL = some ⟨g, 0, none⟩ → w.heap.size + 1 < g ∧ g < S0
theorem RowS.kept {w w' : World} {a : Option Addr} {c : Nat} {l : List ByteArray} (h : RowS w a c l) (hs : w.heap.size ≤ w'.heap.size) (hk : ∀ g, a = some ⟨g, 0, none⟩ → w'.heap[g]? = w.heap[g]?) : RowS w' a c l := by
  rcases h with h | ⟨g, e, h⟩
  · exact .inl h
  · exact .inr ⟨g, e, h.len, h.cap, h.capm, Nat.lt_of_lt_of_le h.lt hs, fun i hi => (World.cell?_of_block (a := ⟨g, i, none⟩) (hk g e)).trans (h.cells i hi)⟩
section
variable {w : World} {B S0 : Nat} {F0 : List Nat} {aL : Option Addr} {cL : Nat} {L : List ByteArray} {wr wr' : World} {vB vN vA : Value} {l : List UInt8} {ns : List ByteArray} {ats : List Nat}
theorem NSt.below (h : NSt w B S0 F0 aL cL L wr vB vN vA l ns ats) (hb : Below wr.heap.size wr wr') : NSt w B S0 F0 aL cL L wr' vB vN vA l ns ats :=
  ⟨h.box.kept (hb.block _ h.box.lt), h.res.kept (hb.block _ h.res.lt), own_below8 h.rb hb, own_below8 h.rn hb, own_below8 h.ra hb, h.lab.below hb, h.foot.trans (Foot.ofBelow _ hb), h.away, Nat.le_trans h.sz hb.size, h.base, h.two, h.fresh⟩
theorem NSt.put0 (h : NSt w B S0 F0 aL cL L wr vB vN vA l ns ats) {v' : Value} {l' : List UInt8} (hown : wr'.ownsRow B 5 1 v' l'.length (bys l')) (hg : wr.grownBy wr' vB.ownBlock) (hf : Foot vB.ownBlock.toList v'.ownBlock.toList wr wr') :
    NSt w B S0 F0 aL cL L (wr'.setCell ⟨w.heap.size, 0, none⟩ v') v' vN vA l' ns ats := by
  have hme : ∀ k, vB.ownBlock = some k → k < w.heap.size ∨ S0 ≤ k := fun k hk => h.away k (mem_blk3.2 (.inl hk))
  have hnew : ∀ k, v'.ownBlock = some k → vB.ownBlock = some k ∨ wr.heap.size ≤ k := fun k hk => (hf.new k (by rw [hk]; simp)).imp (fun e => by simpa using e) id
  have h2 := h.two
  have hsz := h.sz
  have hset : ∀ k, k ≠ w.heap.size → (wr'.setCell ⟨w.heap.size, 0, none⟩ v').heap[k]? = wr'.heap[k]? := fun k hk => Below.heap_setCell wr' ⟨w.heap.size, 0, none⟩ v' k hk
  have hold : ∀ k, k < wr.heap.size → vB.ownBlock ≠ some k → k ≠ w.heap.size → (wr'.setCell ⟨w.heap.size, 0, none⟩ v').heap[k]? = wr.heap[k]? := fun k h1 h3 h4 => (hset k h4).trans (hg.block k h1 (fun e => h3 e.symm))
  have hssz : (wr'.setCell ⟨w.heap.size, 0, none⟩ v').heap.size = wr'.heap.size := by simp [World.setCell]
  refine ⟨?_, ?_, ?_, ?_, ?_, ?_, ?_, ?_, ?_, h.base, h.two, h.fresh⟩
  · exact (h.box.kept (hg.block _ h.box.lt (fun e => by rcases hme _ e.symm with e | e <;> omega))).set0 v'
  · exact h.res.kept (hold _ h.res.lt (fun e => by rcases hme _ e with e | e <;> omega) (by omega))
  · exact own_kept hown (fun k hk => hset k (fun e => by
      subst e
      rcases hnew _ hk with e | e
      · rcases hme _ e with e | e <;> omega
      · omega))
  · exact own_kept (own_grown h.rb h.rn (by decide) hg) (fun k hk => hset k (fun e => by
      subst e
      rcases h.away _ (mem_blk3.2 (.inr (.inl hk))) with e | e <;> omega))
  · exact own_kept (own_grown h.rb h.ra (by decide) hg) (fun k hk => hset k (fun e => by
      subst e
      rcases h.away _ (mem_blk3.2 (.inr (.inr hk))) with e | e <;> omega))
  · refine h.lab.kept (by rw [hssz]; exact hg.size) (fun g hgL => ?_)
    have h3 := h.fresh g hgL
    exact hold g (by omega) (fun e => by rcases hme _ e with e | e <;> omega) (by omega)
  · refine ⟨hg.os.trans h.foot.os, hg.tape.trans h.foot.tape, hg.output.trans h.foot.output, by rw [hssz]; exact Nat.le_trans h.foot.size hg.size, fun k hk hn => ?_, fun k hk => ?_⟩
    · refine (hold k (Nat.lt_of_lt_of_le hk h.foot.size) (fun e => ?_) (by omega)).trans (h.foot.keep k hk hn)
      rcases h.foot.new k (mem_blk3.2 (.inl e)) with e | e
      · exact hn e
      · omega
    · rcases mem_blk3.1 hk with e | e | e
      · rcases hnew k e with e | e
        · exact h.foot.new k (mem_blk3.2 (.inl e))
        · exact .inr (Nat.le_trans h.foot.size e)
      · exact h.foot.new k (mem_blk3.2 (.inr (.inl e)))
      · exact h.foot.new k (mem_blk3.2 (.inr (.inr e)))
  · intro k hk
    rcases mem_blk3.1 hk with e | e | e
    · rcases hnew k e with e | e
      · exact hme k e
      · exact .inr (by omega)
    · exact h.away k (mem_blk3.2 (.inr (.inl e)))
    · exact h.away k (mem_blk3.2 (.inr (.inr e)))
  · rw [hssz]; exact Nat.le_trans h.sz hg.size
theorem NSt.put1 (h : NSt w B S0 F0 aL cL L wr vB vN vA l ns ats) {v' : Value} {ns' : List ByteArray} (hown : wr'.ownsRow B 9 1 v' ns'.length (ns'.map Value.string)) (hg : wr.grownBy wr' vN.ownBlock) (hf : Foot vN.ownBlock.toList v'.ownBlock.toList wr wr') :
    NSt w B S0 F0 aL cL L (wr'.setCell ⟨w.heap.size, 1, none⟩ v') vB v' vA l ns' ats := by
  have hme : ∀ k, vN.ownBlock = some k → k < w.heap.size ∨ S0 ≤ k := fun k hk => h.away k (mem_blk3.2 (.inr (.inl hk)))
  have hnew : ∀ k, v'.ownBlock = some k → vN.ownBlock = some k ∨ wr.heap.size ≤ k := fun k hk => (hf.new k (by rw [hk]; simp)).imp (fun e => by simpa using e) id
  have h2 := h.two
  have hsz := h.sz
  have hset : ∀ k, k ≠ w.heap.size → (wr'.setCell ⟨w.heap.size, 1, none⟩ v').heap[k]? = wr'.heap[k]? := fun k hk => Below.heap_setCell wr' ⟨w.heap.size, 1, none⟩ v' k hk
  have hold : ∀ k, k < wr.heap.size → vN.ownBlock ≠ some k → k ≠ w.heap.size → (wr'.setCell ⟨w.heap.size, 1, none⟩ v').heap[k]? = wr.heap[k]? := fun k h1 h3 h4 => (hset k h4).trans (hg.block k h1 (fun e => h3 e.symm))
  have hssz : (wr'.setCell ⟨w.heap.size, 1, none⟩ v').heap.size = wr'.heap.size := by simp [World.setCell]
  refine ⟨?_, ?_, ?_, ?_, ?_, ?_, ?_, ?_, ?_, h.base, h.two, h.fresh⟩
  · exact (h.box.kept (hg.block _ h.box.lt (fun e => by rcases hme _ e.symm with e | e <;> omega))).set1 v'
  · exact h.res.kept (hold _ h.res.lt (fun e => by rcases hme _ e with e | e <;> omega) (by omega))
  · exact own_kept (own_grown h.rn h.rb (by decide) hg) (fun k hk => hset k (fun e => by
      subst e
      rcases h.away _ (mem_blk3.2 (.inl hk)) with e | e <;> omega))
  · exact own_kept hown (fun k hk => hset k (fun e => by
      subst e
      rcases hnew _ hk with e | e
      · rcases hme _ e with e | e <;> omega
      · omega))
  · exact own_kept (own_grown h.rn h.ra (by decide) hg) (fun k hk => hset k (fun e => by
      subst e
      rcases h.away _ (mem_blk3.2 (.inr (.inr hk))) with e | e <;> omega))
  · refine h.lab.kept (by rw [hssz]; exact hg.size) (fun g hgL => ?_)
    have h3 := h.fresh g hgL
    exact hold g (by omega) (fun e => by rcases hme _ e with e | e <;> omega) (by omega)
  · refine ⟨hg.os.trans h.foot.os, hg.tape.trans h.foot.tape, hg.output.trans h.foot.output, by rw [hssz]; exact Nat.le_trans h.foot.size hg.size, fun k hk hn => ?_, fun k hk => ?_⟩
    · refine (hold k (Nat.lt_of_lt_of_le hk h.foot.size) (fun e => ?_) (by omega)).trans (h.foot.keep k hk hn)
      rcases h.foot.new k (mem_blk3.2 (.inr (.inl e))) with e | e
      · exact hn e
      · omega
    · rcases mem_blk3.1 hk with e | e | e
      · exact h.foot.new k (mem_blk3.2 (.inl e))
      · rcases hnew k e with e | e
        · exact h.foot.new k (mem_blk3.2 (.inr (.inl e)))
        · exact .inr (Nat.le_trans h.foot.size e)
      · exact h.foot.new k (mem_blk3.2 (.inr (.inr e)))
  · intro k hk
    rcases mem_blk3.1 hk with e | e | e
    · exact h.away k (mem_blk3.2 (.inl e))
    · rcases hnew k e with e | e
      · exact hme k e
      · exact .inr (by omega)
    · exact h.away k (mem_blk3.2 (.inr (.inr e)))
  · rw [hssz]; exact Nat.le_trans h.sz hg.size
theorem NSt.put2 (h : NSt w B S0 F0 aL cL L wr vB vN vA l ns ats) {v' : Value} {ats' : List Nat} (hown : wr'.ownsRow B 3 1 v' ats'.length (intsL ats')) (hg : wr.grownBy wr' vA.ownBlock) (hf : Foot vA.ownBlock.toList v'.ownBlock.toList wr wr') :
    NSt w B S0 F0 aL cL L (wr'.setCell ⟨w.heap.size, 2, none⟩ v') vB vN v' l ns ats' := by
  have hme : ∀ k, vA.ownBlock = some k → k < w.heap.size ∨ S0 ≤ k := fun k hk => h.away k (mem_blk3.2 (.inr (.inr hk)))
  have hnew : ∀ k, v'.ownBlock = some k → vA.ownBlock = some k ∨ wr.heap.size ≤ k := fun k hk => (hf.new k (by rw [hk]; simp)).imp (fun e => by simpa using e) id
  have h2 := h.two
  have hsz := h.sz
  have hset : ∀ k, k ≠ w.heap.size → (wr'.setCell ⟨w.heap.size, 2, none⟩ v').heap[k]? = wr'.heap[k]? := fun k hk => Below.heap_setCell wr' ⟨w.heap.size, 2, none⟩ v' k hk
  have hold : ∀ k, k < wr.heap.size → vA.ownBlock ≠ some k → k ≠ w.heap.size → (wr'.setCell ⟨w.heap.size, 2, none⟩ v').heap[k]? = wr.heap[k]? := fun k h1 h3 h4 => (hset k h4).trans (hg.block k h1 (fun e => h3 e.symm))
  have hssz : (wr'.setCell ⟨w.heap.size, 2, none⟩ v').heap.size = wr'.heap.size := by simp [World.setCell]
  refine ⟨?_, ?_, ?_, ?_, ?_, ?_, ?_, ?_, ?_, h.base, h.two, h.fresh⟩
  · exact (h.box.kept (hg.block _ h.box.lt (fun e => by rcases hme _ e.symm with e | e <;> omega))).set2 v'
  · exact h.res.kept (hold _ h.res.lt (fun e => by rcases hme _ e with e | e <;> omega) (by omega))
  · exact own_kept (own_grown h.ra h.rb (by decide) hg) (fun k hk => hset k (fun e => by
      subst e
      rcases h.away _ (mem_blk3.2 (.inl hk)) with e | e <;> omega))
  · exact own_kept (own_grown h.ra h.rn (by decide) hg) (fun k hk => hset k (fun e => by
      subst e
      rcases h.away _ (mem_blk3.2 (.inr (.inl hk))) with e | e <;> omega))
  · exact own_kept hown (fun k hk => hset k (fun e => by
      subst e
      rcases hnew _ hk with e | e
      · rcases hme _ e with e | e <;> omega
      · omega))
  · refine h.lab.kept (by rw [hssz]; exact hg.size) (fun g hgL => ?_)
    have h3 := h.fresh g hgL
    exact hold g (by omega) (fun e => by rcases hme _ e with e | e <;> omega) (by omega)
  · refine ⟨hg.os.trans h.foot.os, hg.tape.trans h.foot.tape, hg.output.trans h.foot.output, by rw [hssz]; exact Nat.le_trans h.foot.size hg.size, fun k hk hn => ?_, fun k hk => ?_⟩
    · refine (hold k (Nat.lt_of_lt_of_le hk h.foot.size) (fun e => ?_) (by omega)).trans (h.foot.keep k hk hn)
      rcases h.foot.new k (mem_blk3.2 (.inr (.inr e))) with e | e
      · exact hn e
      · omega
    · rcases mem_blk3.1 hk with e | e | e
      · exact h.foot.new k (mem_blk3.2 (.inl e))
      · exact h.foot.new k (mem_blk3.2 (.inr (.inl e)))
      · rcases hnew k e with e | e
        · exact h.foot.new k (mem_blk3.2 (.inr (.inr e)))
        · exact .inr (Nat.le_trans h.foot.size e)
  · intro k hk
    rcases mem_blk3.1 hk with e | e | e
    · exact h.away k (mem_blk3.2 (.inl e))
    · exact h.away k (mem_blk3.2 (.inr (.inl e)))
    · rcases hnew k e with e | e
      · exact hme k e
      · exact .inr (by omega)
  · rw [hssz]; exact Nat.le_trans h.sz hg.size
end
end Go.Proofs.Ytedmkdjijhflnaa
/- What the reference's Name of layer 8 hands back: its cells laid, all else kept. -/
namespace Go.Proofs.Ytedmkdjijhflnaa
open Go.RowKit
set_option linter.unusedVariables false
set_option maxRecDepth 20000

/-- What Name hands back. -/
def NameRet (w : World) (B : Nat) (F0 : List Nat) (m : Bool) (R : List UInt8 × List ByteArray × List Nat) (e : Ending) (w' : World) : Prop :=
  ∃ vB vN vA, e = .returned (.tuple #[.agg #[vB, vN, vA], .bool m]) ∧ w'.ownsRow B 5 1 vB R.1.length (bys R.1) ∧ w'.ownsRow B 9 1 vN R.2.1.length (R.2.1.map Value.string) ∧ w'.ownsRow B 3 1 vA R.2.2.length (intsL R.2.2) ∧ Foot F0 (blk3 vB vN vA) w w'
theorem own_slice {w : World} {B : Nat} {t : TypeId} {z : Nat} {v : Value} {n : Nat} {xs : List Value} (h : w.ownsRow B t z v n xs) : ∃ a c, v = .slice a n c := by
  rcases h.2 with ⟨h1, h2⟩ | ⟨g, cap, cur, h1, _⟩
  · exact ⟨none, 0, by rw [h1, h2]⟩
  · exact ⟨_, _, h1⟩
theorem cells_new8 (w : World) (l : List Value) (t : TypeId) : ∀ j u, l[j]? = some u → (w.alloc (.cells l.toArray t)).cell? ⟨w.heap.size, j, none⟩ = some u := by
  intro j u h
  simp [World.cell?_alloc_new, h]
theorem WBox.range {w : World} {b : Nat} {vB vN vA : Value} (h : WBox w b vB vN vA) : w.rangeAt b 0 [vB, vN, vA] := by
  intro j u hu
  match j, hu with
  | 0, hu => cases hu; exact h.c0
  | 1, hu => cases hu; exact h.c1
  | 2, hu => cases hu; exact h.c2
  | j + 3, hu => simp at hu
/-- The result's cells laid: all else stays. -/
theorem name_laid {w wr : World} {B : Nat} {F0 : List Nat} {m : Bool} {vB vN vA : Value} {l : List UInt8} {ns : List ByteArray} {ats : List Nat} (rb : wr.ownsRow B 5 1 vB l.length (bys l)) (rn : wr.ownsRow B 9 1 vN ns.length (ns.map Value.string)) (ra : wr.ownsRow B 3 1 vA ats.length (intsL ats)) (foot : Foot F0 (blk3 vB vN vA) w wr) (away : ∀ k ∈ blk3 vB vN vA, k ≠ w.heap.size + 1) :
    NameRet w B F0 m (l, ns, ats) (.returned (.tuple #[.agg #[vB, vN, vA], .bool m])) (((wr.setCell ⟨w.heap.size + 1, 0, none⟩ vB).setCell ⟨w.heap.size + 1, 1, none⟩ vN).setCell ⟨w.heap.size + 1, 2, none⟩ vA) := by
  have hset : ∀ k, k ≠ w.heap.size + 1 → (((wr.setCell ⟨w.heap.size + 1, 0, none⟩ vB).setCell ⟨w.heap.size + 1, 1, none⟩ vN).setCell ⟨w.heap.size + 1, 2, none⟩ vA).heap[k]? = wr.heap[k]? := fun k hk => by
    rw [Below.heap_setCell _ ⟨w.heap.size + 1, 2, none⟩ vA k hk, Below.heap_setCell _ ⟨w.heap.size + 1, 1, none⟩ vN k hk, Below.heap_setCell _ ⟨w.heap.size + 1, 0, none⟩ vB k hk]
  refine ⟨vB, vN, vA, rfl, own_kept rb (fun k hk => hset k (away k (mem_blk3.2 (.inl hk)))), own_kept rn (fun k hk => hset k (away k (mem_blk3.2 (.inr (.inl hk))))), own_kept ra (fun k hk => hset k (away k (mem_blk3.2 (.inr (.inr hk))))), foot.os, foot.tape, foot.output, ?_, fun k hk hn => (hset k (by omega)).trans (foot.keep k hk hn), foot.new⟩
  simp only [World.setCell, Array.size_modify]
  exact foot.size
theorem WBox.laid {w : World} {b : Nat} {v0 v1 v2 : Value} (h : WBox w b v0 v1 v2) (vB vN vA : Value) : WBox (((w.setCell ⟨b, 0, none⟩ vB).setCell ⟨b, 1, none⟩ vN).setCell ⟨b, 2, none⟩ vA) b vB vN vA := ((h.set0 vB).set1 vN).set2 vA
end Go.Proofs.Ytedmkdjijhflnaa
/- Contract of the reference's Name of layer 8. -/
namespace Go.Proofs.Ytedmkdjijhflnaa
open Go.RowKit
set_option linter.unusedVariables false
set_option maxRecDepth 20000

theorem wrap64_small {x : Int} (h : 0 ≤ x) (h2 : x < 2000000) : wrap64 x = x := by unfold wrap64; omega
theorem wrapu8_small {x : Int} (h : 0 ≤ x) (h2 : x < 256) : IntKind.u8.wrap x = x := by rw [IntKind.wrap_u8]; omega
theorem bys_two {A C : Nat} (hA : A ≤ 63) (hC : C < 256) : bys [UInt8.ofNat (192 + A), UInt8.ofNat C] = [.int .u8 (192 + (A : Int)), .int .u8 (C : Int)] := by
  unfold bys
  simp only [List.map_cons, List.map_nil, UInt8.toNat_ofNat']
  rw [Nat.mod_eq_of_lt (by omega), Nat.mod_eq_of_lt (by omega)]
  simp
/-- One operation alone may come up, and it is wanted. -/
theorem ready_one {P : Program} {md : Region.Mode} {ops : Array Oper} {Q : Exit → Act → World → Prop} {S : World → Prop} {fuel : Nat} {listed : Array Bool} {a : Act} {w : World} {i : Nat} {o : Oper} (ho : ops[i]? = some o) (hw : Region.wanted o (yielded ops a.tmps) = true)
    (h : ∀ K' : Act → World → Prop, Shut (∀ a w, S w → (S w → wpAnyH P md ops Q S fuel (listed.setIfInBounds i true) a w) → K' a w) → Oper.wp P o a w K' Q) : AllReadyH P md ops Q S fuel listed a w [i] :=
  AllReadyH.cons ho (fun K hK => by rw [if_pos hw]; exact h K hK) AllReadyH.nil
theorem bys_one (p : ByteArray) : bys [UInt8.ofNat p.size] = [.int .u8 ((p.size : Int) % 256)] := by
  unfold bys
  simp only [List.map_cons, List.map_nil, UInt8.toNat_ofNat']
  simp
theorem ptr_two (n : Nat) (h : n < 16384) : ∃ mm : List UInt8, mm.length = 2 ∧ [UInt8.ofNat (192 + n / 256), UInt8.ofNat (n % 256)] = mm ∧ bys mm = [.int .u8 (192 + (n : Int) / 256), .int .u8 ((n : Int) % 256)] := by
  refine ⟨_, rfl, rfl, ?_⟩
  rw [bys_two (by omega) (by omega)]
  rfl
end Go.Proofs.Ytedmkdjijhflnaa
/- Contracts of the reference's layer 9: word, two, num, put. -/
namespace Go.Proofs.Ytedmkdjijhflnaa
open Go.RowKit
set_option linter.unusedVariables false
set_option maxRecDepth 20000

def wordN (n : Int) : Bool := decide (0 ≤ n ∧ n ≤ 65535)
/-- A number's two bytes. -/
def twoL (n : Nat) : List UInt8 := [UInt8.ofNat (n / 256), UInt8.ofNat (n % 256)]
theorem bys_twoL (n : Nat) (h : n ≤ 65535) : bys (twoL n) = [.int .u8 ((n : Int) / 256), .int .u8 ((n : Int) % 256)] := by
  unfold bys twoL
  simp only [List.map_cons, List.map_nil, UInt8.toNat_ofNat']
  rw [Nat.mod_eq_of_lt (by omega), Nat.mod_eq_of_lt (by omega)]
  simp
theorem own_cells2 (w : World) (l : List UInt8) (h : l.length ≤ maxLen) : (w.alloc (.cells (bys l).toArray 5)).ownsRow w.heap.size 5 1 (.slice (some ⟨w.heap.size, 0, none⟩) l.length l.length) l.length (bys l) :=
  ⟨by rw [bys_length, Nat.mul_one], .inr ⟨w.heap.size, l.length, (bys l).toArray, rfl, Nat.le_refl _, by show (w.heap.push _)[w.heap.size]? = _; simp, Nat.le_refl _, h, by simp [bys_length], by simp [bys_length, List.take_of_length_le]⟩⟩
/-- A number of so many bytes. -/
def numV (bs : List UInt8) (at0 : Nat) : Nat → Nat
  | 0 => 0
  | k + 1 => numV bs at0 k * 256 + (bs.getD (at0 + k) 0).toNat
theorem numV_lt (bs : List UInt8) (at0 : Nat) : ∀ k, numV bs at0 k < 256 ^ k
  | 0 => Nat.zero_lt_one
  | k + 1 => by
    have h := numV_lt bs at0 k
    have h2 := (bs.getD (at0 + k) 0).toNat_lt
    rw [numV, Nat.pow_succ]
    omega
def numOk (bs : List UInt8) (at0 n : Nat) : Bool := decide (n = 0 ∨ at0 + n ≤ bs.length)
def numR (bs : List UInt8) (at0 n : Nat) : Nat := if numOk bs at0 n = true then numV bs at0 n else 0
/-- What put hands back. -/
def PutRet (w : World) (B : Nat) (F0 : List Nat) (l : List UInt8) (ns : List ByteArray) (ats : List Nat) (e : Ending) (w' : World) : Prop :=
  ∃ vB vN vA, e = .returned (.agg #[vB, vN, vA]) ∧ w'.ownsRow B 5 1 vB l.length (bys l) ∧ w'.ownsRow B 9 1 vN ns.length (ns.map Value.string) ∧ w'.ownsRow B 3 1 vA ats.length (intsL ats) ∧ Foot F0 (blk3 vB vN vA) w w'
/-- A box's cell stored behind an append: the rows and their footprint. -/
theorem put_laid {w V w4 : World} {B b r : Nat} {uB uN uA v2 : Value} {l l2 : List UInt8} {ns : List ByteArray} {ats : List Nat} (hwV : Below w.heap.size w V) (hb : w.heap.size ≤ b) (hr : w.heap.size ≤ r) (rb : w.ownsRow B 5 1 uB l.length (bys l)) (rn : w.ownsRow B 9 1 uN ns.length (ns.map Value.string)) (ra : w.ownsRow B 3 1 uA ats.length (intsL ats)) (ho : w4.ownsRow B 5 1 v2 l2.length (bys l2)) (hg : V.grownBy w4 uB.ownBlock) (hf : Foot uB.ownBlock.toList v2.ownBlock.toList V w4) (hbV : b < V.heap.size) (hrV : r < V.heap.size) (v0 v1 v3 v4 : Value) :
    PutRet w B (blk3 uB uN uA) l2 ns ats (.returned (.agg #[v2, uN, uA])) ((((w4.setCell ⟨b, 0, none⟩ v0).setCell ⟨r, 0, none⟩ v1).setCell ⟨r, 1, none⟩ v3).setCell ⟨r, 2, none⟩ v4) := by
  have hbl : ∀ k, uB.ownBlock = some k → k < w.heap.size := fun k hk => (rb.lt k hk).2
  have hnew : ∀ k, v2.ownBlock = some k → uB.ownBlock = some k ∨ V.heap.size ≤ k := fun k hk => (hf.new k (by rw [hk]; simp)).imp (fun e => by simpa using e) id
  have hset : ∀ k, k ≠ b → k ≠ r → ((((w4.setCell ⟨b, 0, none⟩ v0).setCell ⟨r, 0, none⟩ v1).setCell ⟨r, 1, none⟩ v3).setCell ⟨r, 2, none⟩ v4).heap[k]? = w4.heap[k]? := fun k h1 h2 => by
    rw [Below.heap_setCell _ ⟨r, 2, none⟩ v4 k h2, Below.heap_setCell _ ⟨r, 1, none⟩ v3 k h2, Below.heap_setCell _ ⟨r, 0, none⟩ v1 k h2, Below.heap_setCell _ ⟨b, 0, none⟩ v0 k h1]
  have hold : ∀ k, k < w.heap.size → uB.ownBlock ≠ some k → ((((w4.setCell ⟨b, 0, none⟩ v0).setCell ⟨r, 0, none⟩ v1).setCell ⟨r, 1, none⟩ v3).setCell ⟨r, 2, none⟩ v4).heap[k]? = w.heap[k]? := fun k h1 h2 => by
    rw [hset k (by omega) (by omega), hg.block k (Nat.lt_of_lt_of_le h1 hwV.size) (fun e => h2 e.symm), hwV.block k h1]
  refine ⟨v2, uN, uA, rfl, own_kept ho (fun k hk => hset k (fun e => ?_) (fun e => ?_)), own_kept rn (fun k hk => hold k (rn.lt k hk).2 (fun e => own_types rb rn (by decide) k e hk)), own_kept ra (fun k hk => hold k (ra.lt k hk).2 (fun e => own_types rb ra (by decide) k e hk)), ?_⟩
  · subst e
    rcases hnew _ hk with e | e
    · have := hbl _ e; omega
    · omega
  · subst e
    rcases hnew _ hk with e | e
    · have := hbl _ e; omega
    · omega
  · refine ⟨hg.os.trans hwV.os, hg.tape.trans hwV.tape, hg.output.trans hwV.output, ?_, fun k hk hn => hold k hk (fun e => hn (mem_blk3.2 (.inl e))), fun k hk => ?_⟩
    · simp only [World.setCell, Array.size_modify]
      exact Nat.le_trans hwV.size hg.size
    · rcases mem_blk3.1 hk with e | e | e
      · rcases hnew k e with e | e
        · exact .inl (mem_blk3.2 (.inl e))
        · exact .inr (Nat.le_trans hwV.size e)
      · exact .inl (mem_blk3.2 (.inr (.inl e)))
      · exact .inl (mem_blk3.2 (.inr (.inr e)))
end Go.Proofs.Ytedmkdjijhflnaa
/- Contract of the reference's Record of layer 9. -/
namespace Go.Proofs.Ytedmkdjijhflnaa
open Go.RowKit
set_option linter.unusedVariables false
set_option maxRecDepth 20000

def zB : List Nat := List.replicate 16 0
def headR (r : Rec) : Bool := mayN r.name && wordN r.ty && wordN r.cl && decide (0 ≤ r.ttl) && decide (r.ttl ≤ 2147483647) && decide (r.da.size ≤ 65535)
def bodyR (r : Rec) : Bool :=
  if r.ty = 1 then mayB r.f r.b && decide (r.f = 4) && decide (r.tg.size = 0) && decide (r.da.size = 0)
  else if r.ty = 28 then mayB r.f r.b && decide (r.f = 6) && decide (r.tg.size = 0) && decide (r.da.size = 0)
  else if r.ty = 5 then mayN r.tg && decide (r.f = 0 ∧ r.b = zB) && decide (r.da.size = 0)
  else decide (r.f = 0 ∧ r.b = zB) && decide (r.tg.size = 0)
def mayR (r : Rec) : Bool := headR r && bodyR r
theorem empty_eq (s : ByteArray) : (s.toList == (⟨#[]⟩ : ByteArray).toList) = decide (s.size = 0) := by
  rw [Bool.eq_iff_iff, beq_iff_eq, decide_eq_true_iff]
  constructor
  · intro h
    rw [ByteArray.toList_eq, ByteArray.toList_eq] at h
    have : s.data.toList.length = 0 := by rw [h]; rfl
    rw [← this]; exact Array.length_toList.symm
  · intro h
    have : s = ⟨#[]⟩ := by
      apply bytes_ext
      exact List.eq_nil_of_length_eq_zero (by rw [Array.length_toList]; exact h)
    rw [this]
end Go.Proofs.Ytedmkdjijhflnaa
/- Contracts of the reference's records and May of layer 9; messages and what was asked, in memory. -/
namespace Go.Proofs.Ytedmkdjijhflnaa
open Go.RowKit
set_option linter.unusedVariables false
set_option maxRecDepth 20000

def Room (r : Rec) : Prop := r.name.size ≤ 1900000 ∧ r.tg.size ≤ 1900000
/-- What was asked: 3 cells. -/
structure Qu where
  name : ByteArray
  ty : Int
  cl : Int
deriving DecidableEq
def quL (q : Qu) : List Value := [Value.string q.name, .int .i64 q.ty, .int .i64 q.cl]
def quV (q : Qu) : Value := .agg (quL q).toArray
def FitQ (q : Qu) : Prop := (Lit.int .i64 q.ty).wf = true ∧ (Lit.int .i64 q.cl).wf = true ∧ q.name.size ≤ maxLen
def QusAt (w : World) (a : Option Addr) (cap : Nat) (D : List Qu) : Prop :=
  D.length ≤ cap ∧ cap ≤ maxLen ∧ (∀ q ∈ D, FitQ q) ∧ (D.length = 0 ∨ ∃ g o, a = some ⟨g, o, none⟩ ∧ g < w.heap.size ∧ w.rangeAt g o (D.flatMap quL))
theorem QusAt.below {w w' : World} {a : Option Addr} {cap : Nat} {D : List Qu} (h : QusAt w a cap D) (hb : Below w.heap.size w w') : QusAt w' a cap D := by
  obtain ⟨h1, h2, h3, h4⟩ := h
  refine ⟨h1, h2, h3, ?_⟩
  rcases h4 with h4 | ⟨g, o, e, hg, hr⟩
  · exact .inl h4
  · exact .inr ⟨g, o, e, Nat.lt_of_lt_of_le hg hb.size, fun j u hu => (hb.cell (p := ⟨g, o + j, none⟩) hg).trans (hr j u hu)⟩
theorem QusAt.at {w : World} {a : Option Addr} {cap : Nat} {D : List Qu} (h : QusAt w a cap D) (k : Nat) (hk : k < D.length) : ∃ g o, a = some ⟨g, o, none⟩ ∧ g < w.heap.size ∧ w.cell? ⟨g, o + k * 3, none⟩ = some (.string D[k].name) ∧ w.cell? ⟨g, o + k * 3 + 1, none⟩ = some (.int .i64 D[k].ty) ∧ w.cell? ⟨g, o + k * 3 + 2, none⟩ = some (.int .i64 D[k].cl) := by
  obtain ⟨h1, h2, h3, h4⟩ := h
  rcases h4 with h4 | ⟨g, o, e, hg, hr⟩
  · omega
  · have := range_at hr (S := 3) (fun d hd => rfl) k hk
    exact ⟨g, o, e, hg, this 0 _ rfl, this 1 _ rfl, this 2 _ rfl⟩
/-- A message: its parts. -/
structure Msg where
  id : Int
  fl : Int
  qs : List Qu
  an : List Rec
  au : List Rec
  mo : List Rec
deriving DecidableEq
/-- Where its rows lie. -/
structure MsgIn (w : World) (m : Msg) (aq a1 a2 a3 : Option Addr) (cq c1 c2 c3 : Nat) : Prop where
  qs : QusAt w aq cq m.qs
  an : RecsAt w a1 c1 m.an
  au : RecsAt w a2 c2 m.au
  mo : RecsAt w a3 c3 m.mo
theorem MsgIn.below {w w' : World} {m : Msg} {aq a1 a2 a3 : Option Addr} {cq c1 c2 c3 : Nat} (h : MsgIn w m aq a1 a2 a3 cq c1 c2 c3) (hb : Below w.heap.size w w') : MsgIn w' m aq a1 a2 a3 cq c1 c2 c3 := ⟨h.qs.below hb, h.an.below hb, h.au.below hb, h.mo.below hb⟩
def msgV (m : Msg) (aq a1 a2 a3 : Option Addr) (cq c1 c2 c3 : Nat) : Value := .agg #[.int .i64 m.id, .int .i64 m.fl, .slice aq m.qs.length cq, .slice a1 m.an.length c1, .slice a2 m.au.length c2, .slice a3 m.mo.length c3]
def mayQ9 (q : Qu) : Bool := mayN q.name && wordN q.ty && wordN q.cl
def mayM (m : Msg) : Bool := m.qs.all mayQ9 && wordN m.id && wordN m.fl && m.an.all mayR && m.au.all mayR && m.mo.all mayR
end Go.Proofs.Ytedmkdjijhflnaa
/- Records appended to a row of one's own. -/
namespace Go.Proofs.Ytedmkdjijhflnaa
open Go.RowKit
set_option linter.unusedVariables false
set_option maxRecDepth 20000

def All16 (D : List Rec) : Prop := ∀ r ∈ D, r.b.length = 16
theorem flatR_len : ∀ (D : List Rec), All16 D → (flatR D).length = D.length * 23
  | [], _ => rfl
  | e :: es, h => by
    have h1 := recL_len e (h e (by simp))
    have h2 := flatR_len es (fun x hx => h x (by simp [hx]))
    show (recL e ++ flatR es).length = _
    rw [List.length_append, h1, h2, List.length_cons]
    omega
theorem flatR_append (xs ys : List Rec) : flatR (xs ++ ys) = flatR xs ++ flatR ys := by simp [flatR]
theorem flatR_one (D : List Rec) : ∀ u ∈ flatR D, u.oneCell' = true := by
  intro u hu
  obtain ⟨e, he, h2⟩ := List.mem_flatMap.1 hu
  exact recL_one e u h2
theorem infoR : (Try.prog.info? 44).map (fun i => (i.zero, i.size, i.bytes)) = some (some (.agg zC), 23, 96) := by kernel_rfl
/-- A row of records of one's own. -/
def RowR (w : World) (base : Nat) (v : Value) (D : List Rec) : Prop := w.ownsRow base 44 23 v D.length (flatR D) ∧ All16 D
theorem RowR.nil (w : World) (base : Nat) : RowR w base (.slice none 0 0) [] := ⟨World.ownsRow_nil _ _ _ _, fun r hr => by cases hr⟩
theorem RowR.below {w w' : World} {base : Nat} {v : Value} {D : List Rec} (h : RowR w base v D) (hb : Below w.heap.size w w') : RowR w' base v D := ⟨own_below8 h.1 hb, h.2⟩
theorem RowR.kept {w w' : World} {base : Nat} {v : Value} {D : List Rec} {row : Option Nat} (h : RowR w base v D) (hg : w.grownBy w' row) (hne : v.ownBlock = none ∨ v.ownBlock ≠ row) : RowR w' base v D := ⟨h.1.kept hg hne, h.2⟩
/-- Records that lie somewhere are appended. -/
theorem append_recs {ops : Array Oper} {rest : List Oper} {op : Oper} {a : Act} {w : World} {Q : Exit → Act → World → Prop} {base : Nat} {v : Value} {D : List Rec} (hE : Hid (RowR w base v D)) (s x : Operand) (hgd : op.guard = none) (ho : op.op = .call { callee := .builtin .append, args := #[s, x], argTypes := #[24, 24] })
    (hs : a.eval s = v) {G o m c : Nat} (ys : List Rec) (hx : a.eval x = .slice (some ⟨G, o, none⟩) m c) (hm : Hid (m = ys.length)) (hr : Hid (w.rangeAt G o (flatR ys))) (hy : Hid (All16 ys)) (hle : Hid (D.length + ys.length ≤ 100000)) (hbase : Hid (base ≤ w.heap.size))
    (h : ∀ v' w', Hid (RowR w' base v' (D ++ ys)) → Hid (w.grownBy w' v.ownBlock) → Hid (v'.ownBlock = v.ownBlock ∨ v'.ownBlock = some w.heap.size) → wpList Try.prog ops Q rest (a.put op.dst v') w') : wpList Try.prog ops Q (op :: rest) a w := by
  obtain ⟨i0, hi0, hz0, hz1, hz2⟩ := info_parts infoR
  have hml := hm.out
  have hll := hle.out
  refine wpList_append_own_at w hgd s x 24 ho base 44 i0 _ 23 96 Try.underlying24 hi0 hz0 hz1 hz2 rfl (by decide) v D.length (flatR D) hs hE.out.1 ⟨G, o, none⟩ m c (flatR ys) hx (by rw [flatR_len ys hy.out, hml]) (fun j u hu => ?_) (flatR_one ys) (by unfold maxLen; omega) (by omega) hbase.out (fun v' w' h1 h2 _ h4 => ?_)
  · have := hr.out j u hu
    have hadd : (⟨G, o, none⟩ : Addr).add j = ⟨G, o + j, none⟩ := by unfold Addr.add; split <;> simp_all
    rw [hadd]
    exact this
  · refine h v' w' (Lib.hid ⟨?_, ?_⟩) (Lib.hid h2) (Lib.hid h4)
    · rw [List.length_append, flatR_append, ← hml]; exact h1
    · intro e he
      rcases List.mem_append.1 he with he | he
      · exact hE.out.2 e he
      · exact hy.out e he
theorem fillR (r : Rec) (h16 : r.b.length = 16) : Instr.fill (fun i => some (i * 23, 23)) ((Array.range (1 * 23)).map fun j => zC[j % zC.size]!) [(0, recV r)] = some (recL r).toArray := by
  obtain ⟨nm, ty, cl, ttl, f, b, tg, da⟩ := r
  obtain ⟨y0, y1, y2, y3, y4, y5, y6, y7, y8, y9, y10, y11, y12, y13, y14, y15, rfl⟩ := list16 b h16
  kernel_rfl
theorem run_buildR (r : Rec) (w : World) (h16 : r.b.length = 16) : (Instr.buildSlice 24 1 #[(0, recV r)]).run Try.prog w = .ok (.slice (some ⟨w.heap.size, 0, none⟩) 1 1) (w.alloc (.cells (recL r).toArray 44)) := by
  obtain ⟨i0, hi0, hz0, hz1, hz2⟩ := info_parts infoR
  have hf := fillR r h16
  obtain ⟨Z, hZ⟩ : ∃ Z : Array Value, zC = Z := ⟨_, rfl⟩
  rw [hZ] at hf hz0
  have hsz : (sizeOf 44).run Try.prog w = .ok 23 w := by simp [sizeOf, typeInfo, hi0, hz1]
  have hzv : (zeroValue 44).run Try.prog w = .ok (.agg Z) w := by simp [zeroValue, typeInfo, hi0, hz0]
  have hnr : ∀ cs : Array Value, (newRow 44 cs).run Try.prog w = .ok ⟨w.heap.size, 0, none⟩ (w.alloc (.cells cs 44)) := fun cs => by simp [newRow]
  have hu : (underlying 24).run Try.prog w = .ok _ w := run_underlying Try.underlying24 w
  have hfc : Instr.fill (fun i => some (i * 23, 23)) ((Array.range (1 * 23)).map fun j => (Value.agg Z).cells[j % (Value.agg Z).cells.size]!) (#[(0, recV r)] : Array (Nat × Value)).toList = some (recL r).toArray := hf
  unfold Instr.buildSlice
  simp only [Sem.run_bind, hu, Result.andThen_ok, hsz, if_neg (show ¬ (1 * 23 > 2 ^ 24) by decide), Sem.run_pure, if_neg (show ¬ (1 * 23 = 0) by decide), hzv, hfc, hnr]
theorem build_recS {ops : Array Oper} {rest : List Oper} {op : Oper} {a : Act} {w : World} {Q : Exit → Act → World → Prop} {r : Rec} (hl : Hid (r.b.length = 16)) (hg : op.guard = none) (x : Operand) (ho : op.op = .buildSlice 24 1 #[(0, x)])
    (hx : a.eval x = recV r) (h : ∀ W, Hid (W = w.alloc (.cells (recL r).toArray 44)) → wpList Try.prog ops Q rest (a.put op.dst (.slice (some ⟨w.heap.size, 0, none⟩) 1 1)) W) : wpList Try.prog ops Q (op :: rest) a w := by
  refine wpList_plain hg fun K hK => ?_
  unfold Oper.wp execOp
  simp only [ho, List.map_toArray, List.map_cons, List.map_nil, hx, Sem.run_bind, run_buildR r w hl.out, Result.andThen_ok]
  exact hK _ _ (h _ (Lib.hid rfl))
theorem built_new {w : World} {cs : List Value} (t : TypeId) : (w.alloc (.cells cs.toArray t)).rangeAt w.heap.size 0 cs := by
  intro j u hu
  rw [World.cell?_alloc_new, Nat.zero_add]
  simpa using hu
end Go.Proofs.Ytedmkdjijhflnaa
/- A number's last bits. -/
namespace Go.Proofs.Ytedmkdjijhflnaa
open Go.RowKit
set_option linter.unusedVariables false
set_option maxRecDepth 20000

/-- A number's last bits. -/
def maskN (x : Int) (m : Nat) : Nat := (bits .and .i64 x (m : Int)).toNat
theorem wrap_small (k m : Nat) (hk : k ≤ m) (hm : m < 4611686018427387904) : IntKind.i64.wrap (k : Int) = (k : Int) := by
  rw [IntKind.wrap_i64]
  omega
theorem and_le (a b : BitVec 64) : (a &&& b).toNat ≤ b.toNat := by
  rw [BitVec.toNat_and]
  exact Nat.and_le_right
theorem mask_is (x : Int) (m : Nat) (hm : m < 4611686018427387904) : bits .and .i64 x (m : Int) = ((maskN x m : Nat) : Int) ∧ maskN x m ≤ m := by
  have h1 : (BitVec.ofInt 64 (m : Int)).toNat ≤ m := by
    rw [BitVec.ofInt_natCast, BitVec.toNat_ofNat]
    exact Nat.mod_le _ _
  have h2 := Nat.le_trans (and_le (BitVec.ofInt 64 x) (BitVec.ofInt 64 (m : Int))) h1
  have h3 : bits .and .i64 x (m : Int) = IntKind.i64.wrap (((BitVec.ofInt 64 x &&& BitVec.ofInt 64 (m : Int)).toNat : Nat) : Int) := rfl
  generalize (BitVec.ofInt 64 x &&& BitVec.ofInt 64 (m : Int)).toNat = k at *
  rw [wrap_small k m h2 hm] at h3
  unfold maskN
  rw [h3]
  exact ⟨by simp, by simpa using h2⟩
end Go.Proofs.Ytedmkdjijhflnaa
/- The reference's layer 11: bits; where a record of a name and a type is. -/
namespace Go.Proofs.Ytedmkdjijhflnaa
open Go.RowKit
set_option linter.unusedVariables false
set_option maxRecDepth 20000

/-- Which of some bits are 1. -/
def bitS (n : Int) (fr many : Nat) : Nat := maskN n 65535 / 2 ^ fr % 2 ^ many
/-- Where the first record of a name and a type is, from a place on: how many are left, the place. -/
def isRec (nm : ByteArray) (kd : Int) (r : Rec) : Bool := decide (r.ty = kd) && (decide (r.cl = 1) && likeB r.name nm)
def ofR (D : List Rec) (nm : ByteArray) (kd : Int) : Nat → Nat → Int
  | 0, _ => -1
  | m + 1, k => match D[k]? with
    | some r => if isRec nm kd r then (k : Int) else ofR D nm kd m (k + 1)
    | none => -1
theorem ofR_yes {D : List Rec} {nm : ByteArray} {kd : Int} {m k : Nat} (hk : k < D.length) (h : isRec nm kd D[k] = true) : ofR D nm kd (m + 1) k = (k : Int) := by
  unfold ofR
  rw [List.getElem?_eq_getElem hk]
  simp [h]
theorem ofR_no {D : List Rec} {nm : ByteArray} {kd : Int} {m k : Nat} (hk : k < D.length) (h : isRec nm kd D[k] = false) : ofR D nm kd (m + 1) k = ofR D nm kd m (k + 1) := by
  rw [ofR, List.getElem?_eq_getElem hk]
  simp [h]
theorem isRec_no1 {nm : ByteArray} {kd : Int} {r : Rec} (h : r.ty ≠ kd) : isRec nm kd r = false := by simp [isRec, h]
theorem isRec_no2 {nm : ByteArray} {kd : Int} {r : Rec} (h : r.cl ≠ 1) : isRec nm kd r = false := by simp [isRec, h]
theorem isRec_is {nm : ByteArray} {kd : Int} {r : Rec} (h1 : r.ty = kd) (h2 : r.cl = 1) : isRec nm kd r = likeB r.name nm := by simp [isRec, h1, h2]
theorem ofR_step {D : List Rec} {nm : ByteArray} {kd : Int} {N k : Nat} (hkN : k < N) (hkD : k < D.length) : ofR D nm kd (N - k) k = if isRec nm kd D[k] then (k : Int) else ofR D nm kd (N - (k + 1)) (k + 1) := by
  rw [show N - k = (N - (k + 1)) + 1 by omega]
  cases h : isRec nm kd D[k] with
  | true => rw [ofR_yes hkD h]; rfl
  | false => rw [ofR_no hkD h]; rfl
set_option maxRecDepth 100000 in
set_option maxHeartbeats 2000000 in
theorem refOf11_any (a : Option Addr) (c : Nat) (D : List Rec) (nm : ByteArray) (kd : Int) (k0 : Nat) (w : World) (hA : RecsAt w a c D) (hk0 : k0 ≤ D.length) (hN : ∀ r ∈ D, r.name.size ≤ 2000000) (hnm : nm.size ≤ 2000000) :
    Calls Try.prog 23 #[.slice a D.length c, .string nm, .int .i64 kd, .int .i64 (k0 : Int)] w fun e w' => e = .returned (.int .i64 (ofR D nm kd (D.length - k0) k0)) ∧ Below w.heap.size w w' := by
  have HA := Lib.hid hA
  have hmx : D.length ≤ maxLen := Nat.le_trans hA.1 hA.2.1
  unfold maxLen at hmx
  obtain ⟨N, hNl⟩ : ∃ N, D.length = N := ⟨_, rfl⟩
  have HNL := Lib.hid hNl
  have HNM := Lib.hid hN
  rw [hNl] at hk0 hmx ⊢
  obtain ⟨R, hR⟩ : ∃ R, ofR D nm kd (N - k0) k0 = R := ⟨_, rfl⟩
  have HR := Lib.hid hR
  rw [hR]
  clear hR hA hNl hN
  go_enter Try.func23, Try.ntmps23
  go_wp2_with fail
  go_loopw [9] (fun i wr => ∃ k : Nat, k ≤ N ∧ i = .int .i64 (k : Int) ∧ Hid (ofR D nm kd (N - k) k = R) ∧ Hid (Below w.heap.size w wr)) (fun i _ => N - (intOf i).toNat)
  case atStart => exact ⟨k0, hk0, rfl, HR, Lib.hid (Below.refl _ _)⟩
  case round =>
    clear HR
    obtain ⟨k, hk, rfl, HR, HB⟩ := hrel
    by_cases hkN : k < N
    · have hd : decide ((k : Int) < (N : Int)) = true := decide_eq_true (by omega)
      have hdn : decide (k < N) = true := decide_eq_true hkN
      have hkD : k < D.length := by rw [HNL.out]; exact hkN
      obtain ⟨g, o, rfl, hg, hr⟩ := (HA.out.below HB.out).at k hkD
      have hsz := HNM.out _ (List.getElem_mem hkD)
      have HR1 := Lib.hid ((ofR_step (nm := nm) (kd := kd) hkN hkD).symm.trans HR.out)
      have hi1 := isRec_no1 (nm := nm) (kd := kd) (r := D[k])
      have hi2 := isRec_no2 (nm := nm) (kd := kd) (r := D[k])
      have hi3 := isRec_is (nm := nm) (kd := kd) (r := D[k])
      have hc0 : wr.cell? ⟨g, o + k * 23, none⟩ = some (.string D[k].name) := by have := hr 0 (.string D[k].name) rfl; simpa using this
      have hc1 : wr.cell? ⟨g, o + k * 23 + 1, none⟩ = some (.int .i64 D[k].ty) := hr 1 (.int .i64 D[k].ty) rfl
      have hc2 : wr.cell? ⟨g, o + k * 23 + 2, none⟩ = some (.int .i64 D[k].cl) := hr 2 (.int .i64 D[k].cl) rfl
      have HLK := fun W => Lib.hid (refLike_any D[k].name nm W hsz hnm)
      clear HR
      generalize D[k] = r at *
      generalize isRec nm kd r = ir at *
      have hb1 : (0 : Int) ≤ (k : Int) := by omega
      have hb2 : (k : Int) < (N : Int) := by omega
      clear hr
      by_cases ht : r.ty = kd
      · have hq1 : decide (r.ty = kd) = true := decide_eq_true ht
        have hq1b : (r.ty == kd) = true := by simp [ht]
        by_cases hc : r.cl = 1
        · have hq2 : decide (r.cl = 1) = true := decide_eq_true hc
          have hq2b : (r.cl == 1) = true := by simp [hc]
          have hii := hi3 ht hc
          clear hi1 hi2 hi3
          generalize r.ty = ty at *
          generalize r.cl = cl at *
          generalize r.name = rn at *
          generalize likeB rn nm = lk at *
          subst hii
          go_wp2_with fail
          refine (HLK _).out.mono ?_
          rintro e w1 ⟨rfl, hb⟩
          have HB1 := Lib.hid (chain HB.out hb)
          clear hb HLK HB hc0 hc1 hc2
          cases ir with
          | true =>
            have HR2 : Hid ((k : Int) = R) := Lib.hid HR1.out
            go_wp2_with fail
            go_ret
            exact ⟨by rw [← HR2.out]; rfl, HB1.out⟩
          | false =>
            have HR2 : Hid (ofR D nm kd (N - (k + 1)) (k + 1) = R) := Lib.hid HR1.out
            go_wp2_with fail
            go_roundw
            case rel => exact ⟨k + 1, by omega, by go_num, HR2, HB1⟩
            case measure => simp [intOf]; omega
        · have hq2 : decide (r.cl = 1) = false := decide_eq_false hc
          have hq2b : (r.cl == 1) = false := by simpa using hc
          have hii := hi2 hc
          subst hii
          have HR2 : Hid (ofR D nm kd (N - (k + 1)) (k + 1) = R) := Lib.hid HR1.out
          clear hi1 hi2 hi3 HLK
          go_wp2_with fail
          go_roundw
          case rel => exact ⟨k + 1, by omega, by go_num, HR2, HB⟩
          case measure => simp [intOf]; omega
      · have hq1 : decide (r.ty = kd) = false := decide_eq_false ht
        have hq1b : (r.ty == kd) = false := by simpa using ht
        have hii := hi1 ht
        subst hii
        have HR2 : Hid (ofR D nm kd (N - (k + 1)) (k + 1) = R) := Lib.hid HR1.out
        clear hi1 hi2 hi3 HLK
        go_wp2_with fail
        go_roundw
        case rel => exact ⟨k + 1, by omega, by go_num, HR2, HB⟩
        case measure => simp [intOf]; omega
    · obtain rfl : k = N := by omega
      have hd : decide ((k : Int) < (k : Int)) = false := by simp
      have HR2 : Hid (-1 = R) := Lib.hid (by have := HR.out; rw [Nat.sub_self] at this; exact this)
      go_wp2_with fail
      go_ret
      exact ⟨by rw [← HR2.out]; rfl, HB.out⟩
end Go.Proofs.Ytedmkdjijhflnaa
/- Addresses that a walk holds; loads of them, guarded or not, and of their bytes alone; sixteen bytes stored whole. -/
namespace Go.Proofs.Ytedmkdjijhflnaa
open Go.RowKit
set_option linter.unusedVariables false
set_option maxRecDepth 20000

theorem HeldR.addr {L : List (Nat × Nat × List Value)} {W w : World} {G : Nat} {f : Int} {bs : List Nat} (h : HeldR L W w) (hA : AddrAt w G f bs) : HeldR ((G, 0, addrL f bs) :: L) W w := h.cons hA.range hA.lt
/-- An address of the list. -/
def InA (L : List (Nat × Nat × List Value)) (G : Nat) (f : Int) (bs : List Nat) : Prop := (G, 0, addrL f bs) ∈ L ∧ bs.length = 16
theorem yields_addr {ops : Array Oper} {op : Oper} {a : Act} {L : List (Nat × Nat × List Value)} {W : World} {G : Nat} {f : Int} {bs : List Nat} (hm : Hid (InA L G f bs)) (hw : Region.wanted op (yielded ops a.tmps) = true) (x : Operand) (ho : op.op = .load 42 x)
    (hx : a.eval x = .pointer (some ⟨G, 0, none⟩)) : YieldsIf Try.prog ops (HeldR L W) op (addrV f bs) a :=
  yieldsIf_load_mid hw 42 x ho G 0 hx (addrL f bs) _ (fun _ h => h.get hm.out.1) Try.underlying42 rfl (by rw [addr_size, addrL_len f bs hm.out.2])
theorem famR {L : List (Nat × Nat × List Value)} {G : Nat} {f : Int} {bs : List Nat} (h : InA L G f bs) (W : World) : CellR L W G 0 (.int .i64 f) := fun w hw => hw.cell h.1 0 _ rfl
/-- An address, loaded whole, guarded or not. -/
theorem load_addr_g {ops : Array Oper} {rest : List Oper} {op : Oper} {a : Act} {w : World} {Q : Exit → Act → World → Prop} {G : Nat} {f : Int} {bs : List Nat} (hA : Hid (AddrAt w G f bs)) (x : Operand) (hw : Region.wanted op (yielded ops a.tmps) = true) (ho : op.op = .load 42 x)
    (hx : a.eval x = .pointer (some ⟨G, 0, none⟩)) (h : wpList Try.prog ops Q rest (a.put op.dst (addrV f bs)) w) : wpList Try.prog ops Q (op :: rest) a w :=
  wpList_load_row hw 42 x ho G 0 hx (addrL f bs) _ hA.out.range Try.underlying42 rfl (by rw [addr_size, addrL_len f bs hA.out.len]) h
theorem drewN_below (w : World) (q : Nat) : Below w.heap.size w (w.drewN q) := ⟨rfl, rfl, rfl, Nat.le_refl _, fun _ _ => rfl⟩
theorem arr16_size : (Try.prog.info? 40).map (·.size) = some 16 := by kernel_rfl
/-- Sixteen bytes that lie somewhere. -/
structure B16 (w : World) (G o : Nat) (bs : List Nat) : Prop where
  len : bs.length = 16
  lt : G < w.heap.size
  range : w.rangeAt G o (bs.map fun n => Value.int .u8 ((n : Nat) : Int))
  there : w.there G o 16
theorem AddrAt.b16 {w : World} {G : Nat} {f : Int} {bs : List Nat} (h : AddrAt w G f bs) : B16 w G 1 bs := by
  refine ⟨h.len, h.lt, ?_, fun j hj => ?_⟩
  · intro j v hv
    have := h.range (j + 1) v (by rw [addrL, List.getElem?_cons_succ]; exact hv)
    rw [Nat.zero_add, Nat.add_comm] at this
    exact this
  · have := h.there (1 + j) (by omega)
    rw [Nat.zero_add] at this
    exact this
theorem B16.below {w w' : World} {G o : Nat} {bs : List Nat} (h : B16 w G o bs) (hb : Below w.heap.size w w') : B16 w' G o bs :=
  ⟨h.len, Nat.lt_of_lt_of_le h.lt hb.size, fun j v hv => by rw [hb.cell (p := ⟨G, o + j, none⟩) h.lt]; exact h.range j v hv, fun j hj => by
    rw [hb.cell (p := ⟨G, o + j, none⟩) h.lt, hb.frozen (p := ⟨G, o + j, none⟩) h.lt]
    exact h.there j hj⟩
/-- Sixteen bytes, loaded whole, guarded or not. -/
theorem load_b16 {ops : Array Oper} {rest : List Oper} {op : Oper} {a : Act} {w : World} {Q : Exit → Act → World → Prop} {G o : Nat} {bs : List Nat} (hA : Hid (B16 w G o bs)) (x : Operand) (hw : Region.wanted op (yielded ops a.tmps) = true) (ho : op.op = .load 40 x)
    (hx : a.eval x = .pointer (some ⟨G, o, none⟩)) (h : wpList Try.prog ops Q rest (a.put op.dst (arr16 bs)) w) : wpList Try.prog ops Q (op :: rest) a w :=
  wpList_load_row hw 40 x ho G o hx _ _ hA.out.range Try.underlying40 rfl (by rw [arr16_size, List.length_map, hA.out.len]) h
/-- Sixteen bytes, stored whole. -/
theorem store_b16 {ops : Array Oper} {rest : List Oper} {op : Oper} {a : Act} {w : World} {Q : Exit → Act → World → Prop} {G o : Nat} {bs0 : List Nat} (hA : Hid (B16 w G o bs0)) (x y : Operand) {bs : List Nat} (hl : Hid (bs.length = 16)) (hgd : op.guard = none) (ho : op.op = .store 40 x y)
    (hx : a.eval x = .pointer (some ⟨G, o, none⟩)) (hy : a.eval y = arr16 bs) (h : ∀ W, Hid (W = w.setCells G o (bs.map fun n => Value.int .u8 ((n : Nat) : Int))) → Hid (B16 W G o bs) → wpList Try.prog ops Q rest (a.put op.dst undef) W) : wpList Try.prog ops Q (op :: rest) a w := by
  have e1 : (bs.map fun n => Value.int .u8 ((n : Nat) : Int)).length = 16 := by rw [List.length_map, hl.out]
  refine wpList_store_mid hgd 40 x y ho G o (bs.map fun n => Value.int .u8 ((n : Nat) : Int)).toArray hx hy (by rw [List.size_toArray, e1]; exact hA.out.there) (by rw [arr16_size, List.size_toArray, e1]) (all_oneCell_toArray (fun v hv => by obtain ⟨n, _, rfl⟩ := List.mem_map.1 hv; rfl)) (h _ (Lib.hid rfl) (Lib.hid ⟨hl.out, by rw [size_setCells]; exact hA.out.lt, World.rangeAt_setCells_same _ _ _ _ (by rw [e1]; exact hA.out.there), World.there_setCells hA.out.there _ _ _⟩))
/-- Sixteen bytes, given back out of their cells. -/
theorem results_b16 {fn : Func} {a : Tmp} {tmps : Array Value} {W : World} {R : Nat} {bs : List Nat} (h : fn.results = #[.cell a 40]) (ha : tmps.getD a undef = .pointer (some ⟨R, 0, none⟩)) (hA : B16 W R 0 bs) : (results fn tmps).run Try.prog W = .ok (arr16 bs) W := by
  have hl : (loadVar 40 ⟨R, 0, none⟩).run Try.prog W = .ok (arr16 bs) W :=
    run_loadVar_mid W R 0 40 _ _ hA.range Try.underlying40 rfl (by rw [arr16_size, List.length_map, hA.len])
  rw [Array.getD_eq_getD_getElem?] at ha
  simp [results, h, ha, asAddr, hl]
/-- The cells of sixteen zeros. -/
abbrev z16 : Array Value := #[.int .u8 0, .int .u8 0, .int .u8 0, .int .u8 0, .int .u8 0, .int .u8 0, .int .u8 0, .int .u8 0, .int .u8 0, .int .u8 0, .int .u8 0, .int .u8 0, .int .u8 0, .int .u8 0, .int .u8 0, .int .u8 0]
theorem b16_new (w : World) (t : TypeId) (cs : Array Value) (bs : List Nat) (hl : bs.length = 16) (h : cs.toList = bs.map fun n => Value.int .u8 ((n : Nat) : Int)) : B16 (w.alloc (.cells cs t)) w.heap.size 0 bs := by
  have e : ∀ j, cs[j]? = (bs.map fun n => Value.int .u8 ((n : Nat) : Int))[j]? := fun j => by rw [← h, Array.getElem?_toList]
  refine ⟨hl, by simp, fun j v hv => ?_, fun j hj => ⟨?_, World.frozen?_alloc_new _ _ _ _⟩⟩
  · rw [World.cell?_alloc_new, Nat.zero_add, e]; exact hv
  · rw [World.cell?_alloc_new, Nat.zero_add, e, List.getElem?_map, List.getElem?_eq_getElem (by omega)]; rfl
/-- Sixteen bytes of the list. -/
def InB (L : List (Nat × Nat × List Value)) (G o : Nat) (bs : List Nat) : Prop := (G, o, bs.map fun n => Value.int .u8 ((n : Nat) : Int)) ∈ L ∧ bs.length = 16
theorem yields_b16 {ops : Array Oper} {op : Oper} {a : Act} {L : List (Nat × Nat × List Value)} {W : World} {G o : Nat} {bs : List Nat} (hm : Hid (InB L G o bs)) (hw : Region.wanted op (yielded ops a.tmps) = true) (x : Operand) (ho : op.op = .load 40 x)
    (hx : a.eval x = .pointer (some ⟨G, o, none⟩)) : YieldsIf Try.prog ops (HeldR L W) op (arr16 bs) a :=
  yieldsIf_load_mid hw 40 x ho G o hx _ _ (fun _ h => h.get hm.out.1) Try.underlying40 rfl (by rw [arr16_size, List.length_map, hm.out.2])
end Go.Proofs.Ytedmkdjijhflnaa

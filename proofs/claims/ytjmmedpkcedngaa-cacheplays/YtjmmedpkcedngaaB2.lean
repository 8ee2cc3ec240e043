/- Texts that belong together, one behind the other: Cases, CeFind, CacMap, CeSweep, CacMath, CacRow, Foot, RangeKit, RangeLaw, RangeList, CacKeys, CacCollect. -/
import Derived.Test.YtjmmedpkcedngaaB1
import Derived.Lib.ConvBytes
import Derived.Laws.IdiomStrings
import Derived.Maps.RangeWalk
import Derived.DeepKeys4
import Derived.Lib.SlMapFilter
import Derived.WalkArith
import Derived.Sort.Walk0
import Derived.Laws.OwnMore
import Derived.Deep.AppendLies
import Derived.Maps.AppendAt
import Derived.Deep.MidRow
import Derived.RangeFuncCalls
import Derived.RangeFuncSeq
import Derived.RangeFuncIn
import Derived.OrdersIn
import Derived.TacticsIn
import Derived.Deep.RegionHeld3
import Derived.RangeFuncGives
import Derived.RangeFuncOwn
/- Contracts of the functions that make letters small and hold texts against one another: small, Lower, Like. -/
namespace Go.Proofs.Ytjmmedpkcedngaa
open Go.RowKit
set_option linter.unusedVariables false
set_option maxRecDepth 20000

/-- A byte, as the small letter if it is a great one. -/
def lowC (n : Nat) : Nat := if 65 ≤ n ∧ n ≤ 90 then n + 32 else n
theorem lowC_le {n : Nat} (h : n < 256) : lowC n < 256 := by unfold lowC; split <;> omega
theorem lowC_low (n : Nat) : lowC (lowC n) = lowC n := by
  by_cases h : 65 ≤ n ∧ n ≤ 90
  · have e : lowC n = n + 32 := by unfold lowC; rw [if_pos h]
    rw [e]; unfold lowC; rw [if_neg (by omega)]
  · have e : lowC n = n := by unfold lowC; rw [if_neg h]
    rw [e, e]
def lowU (c : UInt8) : UInt8 := UInt8.ofNat (lowC c.toNat)
theorem lowU_toNat (c : UInt8) : (lowU c).toNat = lowC c.toNat := by
  unfold lowU
  rw [UInt8.toNat_ofNat']
  exact Nat.mod_eq_of_lt (lowC_le c.toNat_lt)
theorem lowU_low (c : UInt8) : lowU (lowU c) = lowU c := by
  apply UInt8.toNat_inj.1
  rw [lowU_toNat, lowU_toNat, lowC_low]
/-- A text with small letters. -/
def lowB (s : ByteArray) : ByteArray := ⟨(s.data.toList.map lowU).toArray⟩
theorem lowB_list (s : ByteArray) : (lowB s).data.toList = s.data.toList.map lowU := by simp [lowB]
theorem lowB_size (s : ByteArray) : (lowB s).size = s.size := by
  have : (lowB s).data.toList.length = s.data.toList.length := by rw [lowB_list]; simp
  simpa using this
theorem lowB_low (s : ByteArray) : lowB (lowB s) = lowB s := by
  apply bytes_ext
  rw [lowB_list, lowB_list, List.map_map]
  congr 1
  funext c
  exact lowU_low c
def likeB (a b : ByteArray) : Bool := (lowB a).toList == (lowB b).toList
theorem likeB_iff (a b : ByteArray) : likeB a b = true ↔ a.data.toList.map lowU = b.data.toList.map lowU := by
  unfold likeB
  rw [beq_iff_eq, ByteArray.toList_eq, ByteArray.toList_eq, lowB_list, lowB_list]
theorem likeB_symm (a b : ByteArray) : likeB a b = likeB b a := by
  rw [Bool.eq_iff_iff, likeB_iff, likeB_iff]
  exact eq_comm
theorem likeB_low (a : ByteArray) : likeB a (lowB a) = true := by
  rw [likeB_iff, lowB_list, List.map_map]
  congr 1
  funext c
  exact (lowU_low c).symm
theorem likeB_size {a b : ByteArray} (h : a.size ≠ b.size) : likeB a b = false := by
  cases hl : likeB a b with
  | false => rfl
  | true =>
    rw [likeB_iff] at hl
    have := congrArg List.length hl
    simp at this
    omega
def LikeTo (a b : ByteArray) (k : Nat) : Prop := ∀ j (ha : j < a.size) (hb : j < b.size), j < k → lowC (a[j]).toNat = lowC (b[j]).toNat
theorem likeTo_zero (a b : ByteArray) : LikeTo a b 0 := fun _ _ _ h => by omega
theorem likeTo_succ {a b : ByteArray} {k : Nat} (h : LikeTo a b k) (ha : k < a.size) (hb : k < b.size) (he : lowC (a[k]).toNat = lowC (b[k]).toNat) : LikeTo a b (k + 1) := by
  intro j ja jb hlt
  by_cases e : j = k
  · subst e; exact he
  · exact h j ja jb (by omega)
theorem likeB_true {a b : ByteArray} {k : Nat} (h : LikeTo a b k) (hs : a.size = b.size) (hk : a.size ≤ k) : likeB a b = true := by
  rw [likeB_iff]
  apply List.ext_getElem
  · simpa using hs
  · intro j h1 h2
    have j1 : j < a.size := by simpa using h1
    have j2 : j < b.size := by simpa using h2
    rw [List.getElem_map, List.getElem_map]
    apply UInt8.toNat_inj.1
    rw [lowU_toNat, lowU_toNat]
    exact h j j1 j2 (by omega)
theorem likeB_false {a b : ByteArray} {k : Nat} (ha : k < a.size) (hb : k < b.size) (he : lowC (a[k]).toNat ≠ lowC (b[k]).toNat) : likeB a b = false := by
  cases hl : likeB a b with
  | false => rfl
  | true =>
    rw [likeB_iff] at hl
    have h1 : (a.data.toList.map lowU)[k]? = (b.data.toList.map lowU)[k]? := by rw [hl]
    rw [List.getElem?_eq_getElem (by simpa using ha), List.getElem?_eq_getElem (by simpa using hb), List.getElem_map, List.getElem_map] at h1
    have h2 := congrArg UInt8.toNat (Option.some.inj h1)
    rw [lowU_toNat, lowU_toNat] at h2
    exact absurd h2 he

set_option maxHeartbeats 400000 in
theorem small_any (c : Nat) (w : World) (hc : c < 256) :
    Calls Try.prog 49 #[.int .u8 (c : Int)] w fun e w' => e = .returned (.int .u8 ((lowC c : Nat) : Int)) ∧ w = w' := by
  by_cases h : 65 ≤ c ∧ c ≤ 90
  · have e : lowC c = c + 32 := by unfold lowC; rw [if_pos h]
    rw [e]
    go_enter Try.func49, Try.ntmps49
    go_wp2
    go_ret
    refine ⟨?_, rfl⟩
    have e2 : IntKind.u8.wrap ((c : Int) + 32) = ((c + 32 : Nat) : Int) := by rw [IntKind.wrap_u8]; omega
    first | rfl | rw [e2] | simp [e2]
  · have e : lowC c = c := by unfold lowC; rw [if_neg h]
    rw [e]
    by_cases h1 : c < 65
    · go_enter Try.func49, Try.ntmps49
      go_wp2
      go_ret
      exact ⟨rfl, rfl⟩
    · have h2 : 90 < c := by omega
      go_enter Try.func49, Try.ntmps49
      go_wp2
      go_ret
      exact ⟨rfl, rfl⟩

/-- The row of bytes that Lower works on, its first k bytes made small. -/
def LowAt (w : World) (s : ByteArray) (k : Nat) (wr : World) : Prop :=
  Below w.heap.size w wr ∧ w.heap.size < wr.heap.size ∧ ∀ j (hj : j < s.size), wr.cell? ⟨w.heap.size, j, none⟩ = some (.int .u8 ((if j < k then lowC (s[j]).toNat else (s[j]).toNat : Nat) : Int)) ∧ wr.frozen? ⟨w.heap.size, j, none⟩ = false
theorem lowAt_start (w : World) (s : ByteArray) : LowAt w s 0 (Lib.bytesWorld w 5 s) := by
  refine ⟨⟨rfl, rfl, rfl, by rw [Lib.bytesWorld_size]; omega, fun k hk => Lib.bytesWorld_at_old w _ s k hk⟩, by rw [Lib.bytesWorld_size]; omega, fun j hj => ⟨?_, ?_⟩⟩
  · rw [Lib.bytesWorld_cell w _ s j hj, if_neg (by omega)]
    have e : s.data.toList.getD j 0 = s[j] := by
      rw [List.getD_eq_getElem?_getD, List.getElem?_eq_getElem (by simpa using hj)]; rfl
    rw [e]
  · unfold World.frozen?
    rw [Lib.bytesWorld_at_new]
    have : s.size ≤ (Lib.bytesCells w 5 s).size := by simp [Lib.bytesCells]
    simp
    omega
theorem lowAt_step {w : World} {s : ByteArray} {k : Nat} {wr : World} (h : LowAt w s k wr) (hk : k < s.size) : LowAt w s (k + 1) (wr.setCell ⟨w.heap.size, k, none⟩ (.int .u8 ((lowC (s[k]).toNat : Nat) : Int))) := by
  obtain ⟨h1, h2, h3⟩ := h
  refine ⟨h1.setCell (Nat.le_refl _) _, by simpa [World.setCell] using h2, fun j hj => ⟨?_, by rw [World.frozen?_setCell]; exact (h3 j hj).2⟩⟩
  by_cases e : j = k
  · subst e
    rw [World.cell?_setCell_same _ _ _ (h3 j hj).1, if_pos (by omega)]
  · rw [World.cell?_setCell_other _ _ _ _ (by intro h; injection h; omega), (h3 j hj).1]
    by_cases hlt : j < k
    · rw [if_pos hlt, if_pos (by omega)]
    · rw [if_neg hlt, if_neg (by omega)]
theorem lowAt_back {w : World} {s : ByteArray} {wr : World} (cap : Nat) (h : LowAt w s s.size wr) :
    (convert 85 9 (.slice (some ⟨w.heap.size, 0, none⟩) s.size cap)).run Try.prog wr = .ok (.string (lowB s)) wr := by
  have hl : (s.data.toList.map lowU).length = s.size := by simp
  have hb := run_convert_bytes_back (P := Try.prog) wr 85 9 5 ⟨w.heap.size, 0, none⟩ cap (s.data.toList.map lowU) Try.underlying85 Try.underlying5 Try.underlying9 (by
    intro j hj
    have hj' : j < s.size := by omega
    have := (h.2.2 j hj').1
    rw [if_pos hj'] at this
    rw [List.getElem_map, lowU_toNat]
    rw [add_none]
    exact this)
  rw [hl] at hb
  exact hb

set_option maxHeartbeats 400000 in
theorem lower_any (s : ByteArray) (w : World) (hs : s.size ≤ 2000000) :
    Calls Try.prog 42 #[.string s] w fun e w' => e = .returned (.string (lowB s)) ∧ Below w.heap.size w w' := by
  have hconv := fun W => Lib.run_convert_string_bytes (P := Try.prog) W 9 85 5 s Try.underlying9 Try.underlying85 Try.underlying5
  have hst := lowAt_start w s
  go_enter Try.func42, Try.ntmps42
  go_wp2
  generalize grownCap w s.size 0 5 = cap
  clear hconv
  generalize Lib.bytesWorld w 5 s = W1 at *
  go_loopw [10] (fun i wr => ∃ k : Nat, k ≤ s.size ∧ i = .int .i64 k ∧ LowAt w s k wr) (fun i _ => s.size - (intOf i).toNat)
  case atStart => exact ⟨0, Nat.zero_le _, rfl, hst⟩
  case round =>
    obtain ⟨k, hk, rfl, hat⟩ := hrel
    by_cases hlt : k < s.size
    · have hc := (hat.2.2 k hlt).1
      have hf := (hat.2.2 k hlt).2
      rw [if_neg (by omega)] at hc
      have u1 : (s[k]).toNat < 256 := (s[k]).toNat_lt
      have hnext := lowAt_step hat hlt
      go_wp2_with fail
      refine (small_any _ _ u1).mono ?_
      rintro e w' ⟨rfl, rfl⟩
      go_wp2
      go_roundw
      case rel => exact ⟨k + 1, by omega, by go_num, hnext⟩
      case measure => simp [intOf]; omega
    · obtain rfl : k = s.size := by omega
      have hb := lowAt_back cap hat
      have hbel := hat.1
      go_wp2
      go_ret
      exact ⟨rfl, hbel⟩

theorem low_snoc (s : ByteArray) (k : Nat) (h : k < s.size) : (s.data.toList.map lowU).take (k + 1) = (s.data.toList.map lowU).take k ++ [lowU s[k]] := by
  rw [List.take_succ_eq_append_getElem (by simpa using h)]
  simp
  rfl

set_option maxHeartbeats 400000 in
theorem refLower_any (s : ByteArray) (w : World) (hs : s.size ≤ 2000000) :
    Calls Try.prog 19 #[.string s] w fun e w' => e = .returned (.string (lowB s)) ∧ Below w.heap.size w w' := by
  obtain ⟨i0, hi0, hz0, hz1, hz2⟩ := info_parts Try.infoByte
  go_enter Try.func19, Try.ntmps19
  go_wp2
  go_loopw [3, 4] (fun v i wr => ∃ k : Nat, k ≤ s.size ∧ i = .int .i64 k ∧ wr.ownsRow w.heap.size 5 1 v ((s.data.toList.map lowU).take k).length (bys ((s.data.toList.map lowU).take k)) ∧ Below w.heap.size w wr) (fun _ i _ => s.size - (intOf i).toNat)
  case atStart => exact ⟨0, Nat.zero_le _, rfl, World.ownsRow_nil _ _ _ _, Below.refl _ _⟩
  case round =>
    obtain ⟨k, hk, rfl, hown, hbel⟩ := hrel
    have hsz := hbel.size
    by_cases hlt : k < s.size
    · have HS := Lib.hid (low_snoc s k hlt)
      have hl : ((s.data.toList.map lowU).take k).length ≤ k := List.length_take_le _ _
      generalize (s.data.toList.map lowU).take k = l at *
      have u1 : (s[k]).toNat < 256 := (s[k]).toNat_lt
      by_cases hc : 65 ≤ (s[k]).toNat ∧ (s[k]).toNat ≤ 90
      · have hx : (s[k]).toNat + 32 = (lowU s[k]).toNat := by rw [lowU_toNat]; unfold lowC; rw [if_pos hc]
        have HX := Lib.hid hx
        clear hx
        have hw : IntKind.u8.wrap (((s[k]).toNat : Int) + 32) = ((s[k]).toNat : Int) + 32 := by rw [IntKind.wrap_u8]; omega
        go_wp2_with (at_builtin; refine wpList_append_own _ rfl (.tmp 23) (.tmp 25) 85 rfl w.heap.size 5 i0 _ 1 1 Try.underlying85 hi0 hz0 hz1 hz2 rfl (by decide) _ _ _ rfl (hown.alloc _) ⟨wr.heap.size, 0, none⟩ 1 1 [.int .u8 (((s[k]).toNat : Int) + 32)] rfl rfl ?c1 ?c2 ?c3 ?c4 ?c5 ?_)
        case c1 => exact cell_one_new _ _ _
        case c2 => intro u hu; simp at hu; subst hu; rfl
        case c3 => unfold maxLen; omega
        case c4 => omega
        case c5 => simp; omega
        intro v' w1 hown' hgrow _
        rw [show (((s[k]).toNat : Int) + 32) = ((lowU s[k]).toNat : Int) by have := HX.out; omega] at hown'
        have R := own_byte hown' hgrow hown hbel
        clear hown' hgrow hown hbel hw
        go_wp2
        go_roundw
        case rel => exact ⟨k + 1, by omega, by go_num, by rw [HS.out]; exact R.1, R.2⟩
        case measure => simp [intOf]; omega
      · have hx : (s[k]).toNat = (lowU s[k]).toNat := by rw [lowU_toNat]; unfold lowC; rw [if_neg hc]
        have HX := Lib.hid hx
        clear hx
        have hcc : (s[k]).toNat < 65 ∨ 90 < (s[k]).toNat := by omega
        clear hc
        rcases hcc with hc | hc
        all_goals
          go_wp2_with (at_builtin; refine wpList_append_own _ rfl (.tmp 23) (.tmp 25) 85 rfl w.heap.size 5 i0 _ 1 1 Try.underlying85 hi0 hz0 hz1 hz2 rfl (by decide) _ _ _ rfl (hown.alloc _) ⟨wr.heap.size, 0, none⟩ 1 1 [.int .u8 ((s[k]).toNat : Int)] rfl rfl (cell_one_new _ _ _) (by intro u hu; simp at hu; subst hu; rfl) (by unfold maxLen; omega) (by omega) (by simp; omega) ?_)
          intro v' w1 hown' hgrow _
          rw [HX.out] at hown'
          have R := own_byte hown' hgrow hown hbel
          clear hown' hgrow hown hbel
          go_wp2
          go_roundw
          case rel => exact ⟨k + 1, by omega, by go_num, by rw [HS.out]; exact R.1, R.2⟩
          case measure => simp [intOf]; omega
    · obtain rfl : k = s.size := by omega
      have hb := own_bytes_back hown
      have e : (⟨((s.data.toList.map lowU).take s.size).toArray⟩ : ByteArray) = lowB s := by
        rw [List.take_of_length_le (by simp)]; rfl
      rw [e] at hb
      clear hown e
      go_wp2
      go_ret
      exact ⟨rfl, hbel⟩

end Go.Proofs.Ytjmmedpkcedngaa
/- Contract of the reference's Find of layer 10: where a key stands. -/
namespace Go.Proofs.Ytjmmedpkcedngaa
open Go.RowKit
set_option linter.unusedVariables false
set_option maxRecDepth 20000

/-- Where a key stands. -/
def findC : List Ce → ByteArray → Int → Option Nat
  | [], _, _ => none
  | e :: es, x, t => if e.s = x ∧ e.t = t then some 0 else (findC es x t).map (· + 1)
def findI (es : List Ce) (x : ByteArray) (t : Int) : Int := match findC es x t with | some k => (k : Int) | none => -1
theorem findC_at (x : ByteArray) (t : Int) : ∀ (es : List Ce) (k : Nat) (hk : k < es.length), (es[k].s = x ∧ es[k].t = t) → (∀ j (hj : j < es.length), j < k → ¬ (es[j].s = x ∧ es[j].t = t)) → findC es x t = some k
  | [], k, hk, _, _ => absurd hk (by simp)
  | e :: es, 0, _, h, _ => by unfold findC; rw [if_pos (show e.s = x ∧ e.t = t from h)]
  | e :: es, k + 1, hk, h, ho => by
    unfold findC
    rw [if_neg (show ¬ (e.s = x ∧ e.t = t) from ho 0 (by simp) (by omega)), findC_at x t es k (by simpa using hk) h (fun j hj hjk => ho (j + 1) (by simpa using hj) (by omega))]
    rfl
theorem findC_none (x : ByteArray) (t : Int) : ∀ (es : List Ce), (∀ j (hj : j < es.length), ¬ (es[j].s = x ∧ es[j].t = t)) → findC es x t = none
  | [], _ => rfl
  | e :: es, h => by
    unfold findC
    rw [if_neg (show ¬ (e.s = x ∧ e.t = t) from h 0 (by simp)), findC_none x t es (fun j hj => h (j + 1) (by simpa using hj))]
    rfl
theorem findC_lt (x : ByteArray) (t : Int) : ∀ (es : List Ce) (k : Nat), findC es x t = some k → ∃ hk : k < es.length, es[k].s = x ∧ es[k].t = t
  | [], k, h => by cases h
  | e :: es, k, h => by
    unfold findC at h
    split at h
    · cases h
      exact ⟨by simp, by assumption⟩
    · cases h2 : findC es x t with
      | none => rw [h2] at h; cases h
      | some j =>
        rw [h2] at h
        cases h
        obtain ⟨hj, h3⟩ := findC_lt x t es j h2
        exact ⟨by simp; omega, h3⟩
theorem findI_at (es : List Ce) (x : ByteArray) (t : Int) (k : Nat) (hk : k < es.length) (h : es[k].s = x ∧ es[k].t = t) (ho : ∀ j (hj : j < es.length), j < k → ¬ (es[j].s = x ∧ es[j].t = t)) : findI es x t = (k : Int) := by
  unfold findI; rw [findC_at x t es k hk h ho]
theorem findI_none (es : List Ce) (x : ByteArray) (t : Int) (h : ∀ j (hj : j < es.length), ¬ (es[j].s = x ∧ es[j].t = t)) : findI es x t = -1 := by
  unfold findI; rw [findC_none x t es h]
set_option maxRecDepth 100000 in
set_option maxHeartbeats 1000000 in
theorem refFindC_any (room : Int) (v : Value) (es : List Ce) (s : ByteArray) (t : Int) (w : World) (base : Nat) (hE : RowC w base v es) (hs : s.size ≤ 2000000) :
    Calls Try.prog 27 #[ccV room v, .string s, .int .i64 t] w fun e w' => e = .returned (.int .i64 (findI es (lowB s) t)) ∧ Below w.heap.size w w' := by
  have HAT := Lib.hid (findI_at es (lowB s) t)
  have HNO := Lib.hid (findI_none es (lowB s) t)
  have HLO := fun W => Lib.hid (refLower_any s W hs)
  generalize findI es (lowB s) t = R at *
  generalize lowB s = x at *
  have hlen := hE.2
  have HB : Hid (Below w.heap.size w (w.alloc (.cells #[.int .i64 room, v] 27))) := Lib.hid ((Below.refl _ _).alloc (Nat.le_refl _) _)
  have HC := Lib.hid (CellsAt.new w 27 [.int .i64 room, v])
  rcases hE.form with ⟨rfl, rfl⟩ | ⟨g, cap, rfl, hg1, hg2, hcap, hcap2, hrg⟩
  · clear hE
    have HN := Lib.hid (HNO.out (fun j hj => absurd hj (by simp)))
    go_enter Try.func27, Try.ntmps27
    go_upto_region 1 with fail
    generalize (w.alloc (.cells #[.int .i64 room, .slice none 0 0] 27)) = W at *
    have h1 := HC.out.cell 1 _ rfl
    go_wp2_with fail
    go_loop [7] (fun i => i = .int .i64 0) (fun _ => 0)
    case atStart => rfl
    case round =>
      subst hrel
      go_wp2_with fail
      go_ret
      exact ⟨by rw [HN.out]; rfl, HB.out⟩
  · have HR1 := Lib.hid (range_belowC hrg HB.out hg2)
    go_enter Try.func27, Try.ntmps27
    go_upto_region 1 with fail
    generalize (w.alloc (.cells #[.int .i64 room, .slice (some ⟨g, 0, none⟩) es.length cap] 27)) = W at *
    obtain ⟨L, hL⟩ : ∃ L, [(w.heap.size, 0, [Value.int .i64 room, .slice (some ⟨g, 0, none⟩) es.length cap]), (g, 0, flatC es)] = L := ⟨_, rfl⟩
    have HK := Lib.hid (show HeldR L w W by rw [← hL]; exact HC.out.held ((HeldR.nil HB.out).cons HR1.out (Nat.lt_of_lt_of_le hg2 HB.out.size)))
    have Cs := Lib.hid (show CellR L w w.heap.size 1 (.slice (some ⟨g, 0, none⟩) es.length cap) from fun w' h => h.cell (show (w.heap.size, 0, [Value.int .i64 room, .slice (some ⟨g, 0, none⟩) es.length cap]) ∈ L by rw [← hL]; simp) 1 _ rfl)
    have HME : Hid (∀ w', HeldR L w w' → w'.rangeAt g 0 (flatC es)) := Lib.hid (fun w' h => h.get (by rw [← hL]; simp))
    clear hL HC HR1 HB hE hrg
    go_wp2_with fail
    go_loopw [7] (fun i wr => ∃ k : Nat, k ≤ es.length ∧ i = .int .i64 (k : Int) ∧ Hid (HeldR L w wr) ∧ Hid (∀ j (hj : j < es.length), j < k → ¬ (es[j].s = x ∧ es[j].t = t))) (fun i _ => es.length - (intOf i).toNat)
    case atStart => exact ⟨0, Nat.zero_le _, rfl, HK, Lib.hid (fun j hj h => absurd h (by omega))⟩
    case round =>
      obtain ⟨k, hk, rfl, HS, HO⟩ := hrel
      clear HK
      have hcs := Cs.out wr HS.out
      by_cases hkl : k < es.length
      · have hd : decide ((k : Int) < (es.length : Int)) = true := by simp; omega
        have hdn : decide (k < es.length) = true := by simp; omega
        have hki : (k : Int) < (es.length : Int) := by omega
        have HA2 := Lib.hid (HAT.out k hkl)
        have HX : Hid (¬ (es[k].s = x ∧ es[k].t = t) → ∀ j (hj : j < es.length), j < k + 1 → ¬ (es[j].s = x ∧ es[j].t = t)) := Lib.hid (fun e j hj hjk => by
          by_cases h : j < k
          · exact HO.out j hj h
          · obtain rfl : j = k := by omega
            exact e)
        have C0 := Lib.hid (show CellR L w g (k * 4) (.string es[k].s) from fun w' h => by have := range_ce (HME.out w' h) k hkl 0 _ rfl; simpa using this)
        have C1 := Lib.hid (show CellR L w g (k * 4 + 1) (.int .i64 es[k].t) from fun w' h => by have := range_ce (HME.out w' h) k hkl 1 _ rfl; simpa using this)
        generalize es[k] = en at *
        have C7 : ∀ w', HeldR L w w' → Hid (Calls Try.prog 19 #[.string s] w' fun e w'' => e = .returned (.string x) ∧ Below w'.heap.size w' w'') := fun w' _ => HLO w'
        go_upto_region 4 with fail
        by_cases h1 : en.s = x
        · have q1 : (en.s.toList == x.toList) = true := by rw [h1]; simp
          have q2 : decide (en.s = x) = true := decide_eq_true h1
          refine wp_region_noPanic ?_
          refine wp_region_held_drew (S := HeldR L w) (by kernel_rfl) HS.out.drew (fun hHeld => ?_)
          refine wpAnyH_take (i := 0) (v := ?_) rfl (by kernel_rfl) (by kernel_rfl) (by kernel_rfl) (fun _ _ _ h => h) (Or.inl ⟨by rfl, ?_⟩) (by assumption) ?_
          rotate_left
          · (intro w hSw; go_simp; try (with_reducible rfl))
          try simp only [Act.put, List.getElem_toArray, List.getElem_cons_zero, List.setIfInBounds_toArray, List.set_cons_zero, List.set_cons_succ]
          refine wpAnyH_take (i := 1) (v := ?_) rfl (by kernel_rfl) (by kernel_rfl) (by kernel_rfl) (fun _ _ _ h => h) (Or.inl ⟨by rfl, ?_⟩) (by assumption) ?_
          rotate_left
          · (intro w hSw; have hc0 := Cs.out w hSw; go_simp; try (with_reducible rfl))
          try simp only [Act.put, List.getElem_toArray, List.getElem_cons_zero, List.getElem_cons_succ, List.setIfInBounds_toArray, List.set_cons_zero, List.set_cons_succ]
          refine wpAnyH_take (i := 2) (v := ?_) rfl (by kernel_rfl) (by kernel_rfl) (by kernel_rfl) (fun _ _ _ h => h) (Or.inl ⟨by rfl, ?_⟩) (by assumption) ?_
          rotate_left
          · (intro w hSw; go_simp; try (with_reducible rfl))
          try simp only [Act.put, List.getElem_toArray, List.getElem_cons_zero, List.getElem_cons_succ, List.setIfInBounds_toArray, List.set_cons_zero, List.set_cons_succ]
          refine wpAnyH_take (i := 3) (v := ?_) rfl (by kernel_rfl) (by kernel_rfl) (by kernel_rfl) (fun _ _ _ h => h) (Or.inl ⟨by rfl, ?_⟩) (by assumption) ?_
          rotate_left
          · (intro w hSw; go_simp; try (with_reducible rfl))
          try simp only [Act.put, List.getElem_toArray, List.getElem_cons_zero, List.getElem_cons_succ, List.setIfInBounds_toArray, List.set_cons_zero, List.set_cons_succ]
          refine wpAnyH_take (i := 4) (v := ?_) rfl (by kernel_rfl) (by kernel_rfl) (by kernel_rfl) (fun _ _ _ h => h) (Or.inl ⟨by rfl, ?_⟩) (by assumption) ?_
          rotate_left
          · (intro w hSw; go_simp; try (with_reducible rfl))
          try simp only [Act.put, List.getElem_toArray, List.getElem_cons_zero, List.getElem_cons_succ, List.setIfInBounds_toArray, List.set_cons_zero, List.set_cons_succ]
          refine wpAnyH_take (i := 5) (v := ?_) rfl (by kernel_rfl) (by kernel_rfl) (by kernel_rfl) (fun _ _ _ h => h) (Or.inl ⟨by rfl, ?_⟩) (by assumption) ?_
          rotate_left
          · (intro w hSw; have hc0 := C0.out w hSw; go_simp; try (with_reducible rfl))
          try simp only [Act.put, List.getElem_toArray, List.getElem_cons_zero, List.getElem_cons_succ, List.setIfInBounds_toArray, List.set_cons_zero, List.set_cons_succ]
          refine wpAnyH_take (i := 6) (v := ?_) rfl (by kernel_rfl) (by kernel_rfl) (by kernel_rfl) (fun _ _ _ h => h) (Or.inl ⟨by rfl, ?_⟩) (by assumption) ?_
          rotate_left
          · (intro w hSw; go_simp; try (with_reducible rfl))
          try simp only [Act.put, List.getElem_toArray, List.getElem_cons_zero, List.getElem_cons_succ, List.setIfInBounds_toArray, List.set_cons_zero, List.set_cons_succ]
          refine wpAnyH_ready (rs := [7]) (by kernel_rfl) (by simp) ?_
          refine AllReadyH.cons rfl (fun K hK => ?_) AllReadyH.nil
          go_simp
          refine (Calls.heldR (C7 _ (by assumption)).out (by assumption)).mono ?_
          rintro e wr7 ⟨rfl, hS7⟩
          go_wp2_with fail
          refine hK.out _ _ hS7 (fun hHeld => ?_)
          clear hK K
          try simp only [Act.put, List.getElem_toArray, List.getElem_cons_zero, List.getElem_cons_succ, List.setIfInBounds_toArray, List.set_cons_zero, List.set_cons_succ]
          refine wpAnyH_take (i := 8) (v := ?_) rfl (by kernel_rfl) (by kernel_rfl) (by kernel_rfl) (fun _ _ _ h => h) (Or.inl ⟨by rfl, ?_⟩) (by assumption) ?_
          rotate_left
          · (intro w hSw; go_simp; try (with_reducible rfl))
          try simp only [Act.put, List.getElem_toArray, List.getElem_cons_zero, List.getElem_cons_succ, List.setIfInBounds_toArray, List.set_cons_zero, List.set_cons_succ]
          refine wpAnyH_take (i := 9) (v := ?_) rfl (by kernel_rfl) (by kernel_rfl) (by kernel_rfl) (fun _ _ _ h => h) (Or.inl ⟨by rfl, ?_⟩) (by assumption) ?_
          rotate_left
          · (intro w hSw; go_simp; try (with_reducible rfl))
          try simp only [Act.put, List.getElem_toArray, List.getElem_cons_zero, List.getElem_cons_succ, List.setIfInBounds_toArray, List.set_cons_zero, List.set_cons_succ]
          refine wpAnyH_take (i := 10) (v := ?_) rfl (by kernel_rfl) (by kernel_rfl) (by kernel_rfl) (fun _ _ _ h => h) (Or.inl ⟨by rfl, ?_⟩) (by assumption) ?_
          rotate_left
          · (intro w hSw; go_simp; try (with_reducible rfl))
          try simp only [Act.put, List.getElem_toArray, List.getElem_cons_zero, List.getElem_cons_succ, List.setIfInBounds_toArray, List.set_cons_zero, List.set_cons_succ]
          refine wpAnyH_take (i := 11) (v := ?_) rfl (by kernel_rfl) (by kernel_rfl) (by kernel_rfl) (fun _ _ _ h => h) (Or.inl ⟨by rfl, ?_⟩) (by assumption) ?_
          rotate_left
          · (intro w hSw; have hc0 := Cs.out w hSw; go_simp; try (with_reducible rfl))
          try simp only [Act.put, List.getElem_toArray, List.getElem_cons_zero, List.getElem_cons_succ, List.setIfInBounds_toArray, List.set_cons_zero, List.set_cons_succ]
          refine wpAnyH_take (i := 12) (v := ?_) rfl (by kernel_rfl) (by kernel_rfl) (by kernel_rfl) (fun _ _ _ h => h) (Or.inl ⟨by rfl, ?_⟩) (by assumption) ?_
          rotate_left
          · (intro w hSw; go_simp; try (with_reducible rfl))
          try simp only [Act.put, List.getElem_toArray, List.getElem_cons_zero, List.getElem_cons_succ, List.setIfInBounds_toArray, List.set_cons_zero, List.set_cons_succ]
          refine wpAnyH_take (i := 13) (v := ?_) rfl (by kernel_rfl) (by kernel_rfl) (by kernel_rfl) (fun _ _ _ h => h) (Or.inl ⟨by rfl, ?_⟩) (by assumption) ?_
          rotate_left
          · (intro w hSw; go_simp; try (with_reducible rfl))
          try simp only [Act.put, List.getElem_toArray, List.getElem_cons_zero, List.getElem_cons_succ, List.setIfInBounds_toArray, List.set_cons_zero, List.set_cons_succ]
          refine wpAnyH_take (i := 14) (v := ?_) rfl (by kernel_rfl) (by kernel_rfl) (by kernel_rfl) (fun _ _ _ h => h) (Or.inl ⟨by rfl, ?_⟩) (by assumption) ?_
          rotate_left
          · (intro w hSw; go_simp; try (with_reducible rfl))
          try simp only [Act.put, List.getElem_toArray, List.getElem_cons_zero, List.getElem_cons_succ, List.setIfInBounds_toArray, List.set_cons_zero, List.set_cons_succ]
          refine wpAnyH_take (i := 15) (v := ?_) rfl (by kernel_rfl) (by kernel_rfl) (by kernel_rfl) (fun _ _ _ h => h) (Or.inl ⟨by rfl, ?_⟩) (by assumption) ?_
          rotate_left
          · (intro w hSw; have hc0 := C1.out w hSw; go_simp; try (with_reducible rfl))
          try simp only [Act.put, List.getElem_toArray, List.getElem_cons_zero, List.getElem_cons_succ, List.setIfInBounds_toArray, List.set_cons_zero, List.set_cons_succ]
          refine wpAnyH_take (i := 16) (v := ?_) rfl (by kernel_rfl) (by kernel_rfl) (by kernel_rfl) (fun _ _ _ h => h) (Or.inl ⟨by rfl, ?_⟩) (by assumption) ?_
          rotate_left
          · (intro w hSw; go_simp; try (with_reducible rfl))
          try simp only [Act.put, List.getElem_toArray, List.getElem_cons_zero, List.getElem_cons_succ, List.setIfInBounds_toArray, List.set_cons_zero, List.set_cons_succ]
          refine wpAnyH_take (i := 17) (v := ?_) rfl (by kernel_rfl) (by kernel_rfl) (by kernel_rfl) (fun _ _ _ h => h) (Or.inl ⟨by rfl, ?_⟩) (by assumption) ?_
          rotate_left
          · (intro w hSw; go_simp; try (with_reducible rfl))
          try simp only [Act.put, List.getElem_toArray, List.getElem_cons_zero, List.getElem_cons_succ, List.setIfInBounds_toArray, List.set_cons_zero, List.set_cons_succ]
          refine wpAnyH_take (i := 18) (v := ?_) rfl (by kernel_rfl) (by kernel_rfl) (by kernel_rfl) (fun _ _ _ h => h) (Or.inl ⟨by rfl, ?_⟩) (by assumption) ?_
          rotate_left
          · (intro w hSw; go_simp; try (with_reducible rfl))
          try simp only [Act.put, List.getElem_toArray, List.getElem_cons_zero, List.getElem_cons_succ, List.setIfInBounds_toArray, List.set_cons_zero, List.set_cons_succ]
          refine wpAnyH_done (by kernel_rfl) ?_ _
          refine NoPanic.normal ?_
          by_cases h2 : en.t = t
          · have q3 : decide (en.t = t) = true := decide_eq_true h2
            have q4 : (en.t == t) = true := by simp [h2]
            go_wp2_with fail
            go_ret
            exact ⟨by rw [HA2.out ⟨h1, h2⟩ HO.out]; rfl, hHeld.bel⟩
          · have q3 : decide (en.t = t) = false := decide_eq_false h2
            have q4 : (en.t == t) = false := by simp [h2]
            go_wp2_with fail
            go_roundw
            case rel => exact ⟨k + 1, by omega, by go_num, Lib.hid hHeld, Lib.hid (HX.out (fun h => h2 h.2))⟩
            case measure => simp [intOf]; omega
        · have q1 : (en.s.toList == x.toList) = false := by
            rw [beq_eq_false_iff_ne]
            intro h
            rw [ByteArray.toList_eq, ByteArray.toList_eq] at h
            exact h1 (ByteArray.ext (Array.ext' h))
          have q2 : decide (en.s = x) = false := decide_eq_false h1
          refine wp_region_noPanic ?_
          refine wp_region_held_drew (S := HeldR L w) (by kernel_rfl) HS.out.drew (fun hHeld => ?_)
          refine wpAnyH_take (i := 0) (v := ?_) rfl (by kernel_rfl) (by kernel_rfl) (by kernel_rfl) (fun _ _ _ h => h) (Or.inl ⟨by rfl, ?_⟩) (by assumption) ?_
          rotate_left
          · (intro w hSw; go_simp; try (with_reducible rfl))
          try simp only [Act.put, List.getElem_toArray, List.getElem_cons_zero, List.setIfInBounds_toArray, List.set_cons_zero, List.set_cons_succ]
          refine wpAnyH_take (i := 1) (v := ?_) rfl (by kernel_rfl) (by kernel_rfl) (by kernel_rfl) (fun _ _ _ h => h) (Or.inl ⟨by rfl, ?_⟩) (by assumption) ?_
          rotate_left
          · (intro w hSw; have hc0 := Cs.out w hSw; go_simp; try (with_reducible rfl))
          try simp only [Act.put, List.getElem_toArray, List.getElem_cons_zero, List.getElem_cons_succ, List.setIfInBounds_toArray, List.set_cons_zero, List.set_cons_succ]
          refine wpAnyH_take (i := 2) (v := ?_) rfl (by kernel_rfl) (by kernel_rfl) (by kernel_rfl) (fun _ _ _ h => h) (Or.inl ⟨by rfl, ?_⟩) (by assumption) ?_
          rotate_left
          · (intro w hSw; go_simp; try (with_reducible rfl))
          try simp only [Act.put, List.getElem_toArray, List.getElem_cons_zero, List.getElem_cons_succ, List.setIfInBounds_toArray, List.set_cons_zero, List.set_cons_succ]
          refine wpAnyH_take (i := 3) (v := ?_) rfl (by kernel_rfl) (by kernel_rfl) (by kernel_rfl) (fun _ _ _ h => h) (Or.inl ⟨by rfl, ?_⟩) (by assumption) ?_
          rotate_left
          · (intro w hSw; go_simp; try (with_reducible rfl))
          try simp only [Act.put, List.getElem_toArray, List.getElem_cons_zero, List.getElem_cons_succ, List.setIfInBounds_toArray, List.set_cons_zero, List.set_cons_succ]
          refine wpAnyH_take (i := 4) (v := ?_) rfl (by kernel_rfl) (by kernel_rfl) (by kernel_rfl) (fun _ _ _ h => h) (Or.inl ⟨by rfl, ?_⟩) (by assumption) ?_
          rotate_left
          · (intro w hSw; go_simp; try (with_reducible rfl))
          try simp only [Act.put, List.getElem_toArray, List.getElem_cons_zero, List.getElem_cons_succ, List.setIfInBounds_toArray, List.set_cons_zero, List.set_cons_succ]
          refine wpAnyH_take (i := 5) (v := ?_) rfl (by kernel_rfl) (by kernel_rfl) (by kernel_rfl) (fun _ _ _ h => h) (Or.inl ⟨by rfl, ?_⟩) (by assumption) ?_
          rotate_left
          · (intro w hSw; have hc0 := C0.out w hSw; go_simp; try (with_reducible rfl))
          try simp only [Act.put, List.getElem_toArray, List.getElem_cons_zero, List.getElem_cons_succ, List.setIfInBounds_toArray, List.set_cons_zero, List.set_cons_succ]
          refine wpAnyH_take (i := 6) (v := ?_) rfl (by kernel_rfl) (by kernel_rfl) (by kernel_rfl) (fun _ _ _ h => h) (Or.inl ⟨by rfl, ?_⟩) (by assumption) ?_
          rotate_left
          · (intro w hSw; go_simp; try (with_reducible rfl))
          try simp only [Act.put, List.getElem_toArray, List.getElem_cons_zero, List.getElem_cons_succ, List.setIfInBounds_toArray, List.set_cons_zero, List.set_cons_succ]
          refine wpAnyH_ready (rs := [7]) (by kernel_rfl) (by simp) ?_
          refine AllReadyH.cons rfl (fun K hK => ?_) AllReadyH.nil
          go_simp
          refine (Calls.heldR (C7 _ (by assumption)).out (by assumption)).mono ?_
          rintro e wr7 ⟨rfl, hS7⟩
          go_wp2_with fail
          refine hK.out _ _ hS7 (fun hHeld => ?_)
          clear hK K
          try simp only [Act.put, List.getElem_toArray, List.getElem_cons_zero, List.getElem_cons_succ, List.setIfInBounds_toArray, List.set_cons_zero, List.set_cons_succ]
          refine wpAnyH_take (i := 8) (v := ?_) rfl (by kernel_rfl) (by kernel_rfl) (by kernel_rfl) (fun _ _ _ h => h) (Or.inl ⟨by rfl, ?_⟩) (by assumption) ?_
          rotate_left
          · (intro w hSw; go_simp; try (with_reducible rfl))
          try simp only [Act.put, List.getElem_toArray, List.getElem_cons_zero, List.getElem_cons_succ, List.setIfInBounds_toArray, List.set_cons_zero, List.set_cons_succ]
          refine wpAnyH_take (i := 9) (v := ?_) rfl (by kernel_rfl) (by kernel_rfl) (by kernel_rfl) (fun _ _ _ h => h) (Or.inl ⟨by rfl, ?_⟩) (by assumption) ?_
          rotate_left
          · (intro w hSw; go_simp; try (with_reducible rfl))
          try simp only [Act.put, List.getElem_toArray, List.getElem_cons_zero, List.getElem_cons_succ, List.setIfInBounds_toArray, List.set_cons_zero, List.set_cons_succ]
          refine wpAnyH_take (i := 10) (v := undef) rfl (by kernel_rfl) (by kernel_rfl) (by kernel_rfl) (fun _ _ _ h => h) (Or.inr ⟨by rfl, rfl⟩) (by assumption) ?_
          try simp only [Act.put, List.getElem_toArray, List.getElem_cons_zero, List.getElem_cons_succ, List.setIfInBounds_toArray, List.set_cons_zero, List.set_cons_succ]
          refine wpAnyH_take (i := 11) (v := undef) rfl (by kernel_rfl) (by kernel_rfl) (by kernel_rfl) (fun _ _ _ h => h) (Or.inr ⟨by rfl, rfl⟩) (by assumption) ?_
          try simp only [Act.put, List.getElem_toArray, List.getElem_cons_zero, List.getElem_cons_succ, List.setIfInBounds_toArray, List.set_cons_zero, List.set_cons_succ]
          refine wpAnyH_take (i := 12) (v := undef) rfl (by kernel_rfl) (by kernel_rfl) (by kernel_rfl) (fun _ _ _ h => h) (Or.inr ⟨by rfl, rfl⟩) (by assumption) ?_
          try simp only [Act.put, List.getElem_toArray, List.getElem_cons_zero, List.getElem_cons_succ, List.setIfInBounds_toArray, List.set_cons_zero, List.set_cons_succ]
          refine wpAnyH_take (i := 13) (v := undef) rfl (by kernel_rfl) (by kernel_rfl) (by kernel_rfl) (fun _ _ _ h => h) (Or.inr ⟨by rfl, rfl⟩) (by assumption) ?_
          try simp only [Act.put, List.getElem_toArray, List.getElem_cons_zero, List.getElem_cons_succ, List.setIfInBounds_toArray, List.set_cons_zero, List.set_cons_succ]
          refine wpAnyH_take (i := 14) (v := undef) rfl (by kernel_rfl) (by kernel_rfl) (by kernel_rfl) (fun _ _ _ h => h) (Or.inr ⟨by rfl, rfl⟩) (by assumption) ?_
          try simp only [Act.put, List.getElem_toArray, List.getElem_cons_zero, List.getElem_cons_succ, List.setIfInBounds_toArray, List.set_cons_zero, List.set_cons_succ]
          refine wpAnyH_take (i := 15) (v := undef) rfl (by kernel_rfl) (by kernel_rfl) (by kernel_rfl) (fun _ _ _ h => h) (Or.inr ⟨by rfl, rfl⟩) (by assumption) ?_
          try simp only [Act.put, List.getElem_toArray, List.getElem_cons_zero, List.getElem_cons_succ, List.setIfInBounds_toArray, List.set_cons_zero, List.set_cons_succ]
          refine wpAnyH_take (i := 16) (v := undef) rfl (by kernel_rfl) (by kernel_rfl) (by kernel_rfl) (fun _ _ _ h => h) (Or.inr ⟨by rfl, rfl⟩) (by assumption) ?_
          try simp only [Act.put, List.getElem_toArray, List.getElem_cons_zero, List.getElem_cons_succ, List.setIfInBounds_toArray, List.set_cons_zero, List.set_cons_succ]
          refine wpAnyH_take (i := 17) (v := undef) rfl (by kernel_rfl) (by kernel_rfl) (by kernel_rfl) (fun _ _ _ h => h) (Or.inr ⟨by rfl, rfl⟩) (by assumption) ?_
          try simp only [Act.put, List.getElem_toArray, List.getElem_cons_zero, List.getElem_cons_succ, List.setIfInBounds_toArray, List.set_cons_zero, List.set_cons_succ]
          refine wpAnyH_take (i := 18) (v := ?_) rfl (by kernel_rfl) (by kernel_rfl) (by kernel_rfl) (fun _ _ _ h => h) (Or.inl ⟨by rfl, ?_⟩) (by assumption) ?_
          rotate_left
          · (intro w hSw; go_simp; try (with_reducible rfl))
          try simp only [Act.put, List.getElem_toArray, List.getElem_cons_zero, List.getElem_cons_succ, List.setIfInBounds_toArray, List.set_cons_zero, List.set_cons_succ]
          refine wpAnyH_done (by kernel_rfl) ?_ _
          refine NoPanic.normal ?_
          go_wp2_with fail
          go_roundw
          case rel => exact ⟨k + 1, by omega, by go_num, Lib.hid hHeld, Lib.hid (HX.out (fun h => h1 h.1))⟩
          case measure => simp [intOf]; omega
      · obtain rfl : k = es.length := by omega
        have hd : decide ((es.length : Int) < (es.length : Int)) = false := by simp
        have HN := Lib.hid (HNO.out (fun j hj => HO.out j hj hj))
        go_wp2_with fail
        go_ret
        exact ⟨by rw [HN.out]; rfl, HS.out.bel⟩
end Go.Proofs.Ytjmmedpkcedngaa
/- The cache's map: its keys (structs), its entries, and what the map holds as a row of entries in whatever order. -/
namespace Go.Proofs.Ytjmmedpkcedngaa
open Go.RowKit Go.Maps
set_option linter.unusedVariables false
set_option maxRecDepth 20000

def keyLit (p : ByteArray × Int) : Lit := .string (keyBytes [.string p.1.data.toList, .int .i64 p.2])
set_option maxRecDepth 100000 in
theorem lawK : Keyed Try.prog 39 := Keyed.of_law (deep_law_laid laidOut (m := 5) (by decide) (Nat.le_of_ble_eq_true (by kernel_rfl)) (by kernel_rfl) (by kernel_rfl))
theorem keyFormed (p : ByteArray × Int) : (keyV p).formed Try.prog 39 = true := by
  unfold keyV keyL
  rfl
theorem keyTypeK : Try.prog.keyType 39 = true := by kernel_rfl
theorem typesK : ∃ m, Try.prog.types.size = m + 1 := ⟨Try.prog.types.size - 1, by kernel_rfl⟩
def KeyOk (p : ByteArray × Int) : Prop := p.1.size ≤ 2000000 ∧ (Lit.int .i64 p.2).wf = true
theorem keyOf_key (p : ByteArray × Int) (h : KeyOk p) : keyOf Try.prog 39 (keyV p) = some (keyLit p) := by
  obtain ⟨hs, ht⟩ := h
  obtain ⟨m, hm⟩ := typesK
  have hs2 : p.1.size ≤ maxLen := by unfold maxLen; omega
  have c0 : Try.prog.cellsOf 39 = 2 := by kernel_rfl
  have c1 : Try.prog.cellsOf 9 = 1 := by kernel_rfl
  have c2 : Try.prog.cellsOf 3 = 1 := by kernel_rfl
  unfold keyOf
  rw [Try.underlying39]
  simp only [keyTypeK, keyFormed, Bool.and_self, if_true, hm]
  simp only [Program.keyLits, Try.underlying39]
  simp [keyV, keyL, Value.cells, c0, c1, c2, Try.underlying9, Try.underlying3, hs2, ht, keyLit]
theorem keyV_inj {p q : ByteArray × Int} (h : keyV p = keyV q) : p = q := by
  unfold keyV keyL at h
  simp at h
  exact Prod.ext h.1 h.2
theorem keyLit_inj {p q : ByteArray × Int} (hp : KeyOk p) (hq : KeyOk q) (h : keyLit p = keyLit q) : p = q :=
  keyV_inj (lawK.inj (keyOf_key p hp) (h ▸ keyOf_key q hq))
/-- How an entry of the map reads: as itself. -/
def elemV (v : Value) : Option (DataW Value × List MemPlace) := some (.held v, [])
theorem elemV_inv {v : Value} {d : DataW Value} {ps : List MemPlace} (h : elemV v = some (d, ps)) : d = .held v := by
  unfold elemV at h
  injection h with h
  exact (Prod.mk.inj h).1.symm
def entV (e : Ce) : Value := .agg #[.slice e.a e.n e.c, .int .i64 e.u]
def zeroE : Value := .agg #[.slice none 0 0, .int .i64 0]
def keyC (e : Ce) : ByteArray × Int := (e.s, e.t)
def entD (e : Ce) : Lit × DataW Value := (keyLit (keyC e), .held (entV e))
/-- What the map holds: the entries, in whatever order. -/
def TellsC (D : DataW Value) (es : List Ce) : Prop := ∃ l, D = .map l ∧ l.Perm (es.map entD)
def KeysOk (es : List Ce) : Prop := ∀ e ∈ es, KeyOk (keyC e)
def KeysApart (es : List Ce) : Prop := es.Pairwise (fun a b => keyC a ≠ keyC b)
def CacMap (w : World) (b : Nat) (es : List Ce) : Prop := ∃ n D, w.ownsMap Try.prog 39 elemV b n D ∧ n ≤ 1000000 ∧ TellsC D es
theorem entD_apart {es : List Ce} (ho : KeysOk es) (ha : KeysApart es) : (es.map entD).Pairwise (fun p q => p.1 ≠ q.1) := by
  rw [List.pairwise_map]
  refine (List.Pairwise.imp_of_mem ?_ ha)
  intro a b h1 h2 h e
  exact h (keyLit_inj (ho a h1) (ho b h2) e)
theorem isKeyLit (p : ByteArray × Int) : WideAt.IsKeyLit (keyLit p) := trivial
theorem same_lit {p q : ByteArray × Int} (hp : KeyOk p) (hq : KeyOk q) : (keyLit p).sameKey (keyLit q) = decide (p = q) := by
  by_cases h : p = q
  · subst h
    rw [WideAt.sameKey_self (isKeyLit p)]; simp
  · have : (keyLit p).sameKey (keyLit q) = false := by
      cases hs : (keyLit p).sameKey (keyLit q)
      · rfl
      · exact absurd (keyLit_inj hp hq (WideAt.sameKey_eq hs)) h
    rw [this]; simp [h]
/-- The entry of a key. -/
def getE (es : List Ce) (x : ByteArray) (t : Int) : Option Ce := match findC es x t with
  | none => none
  | some k => es[k]?
theorem getE_none {es : List Ce} {x : ByteArray} {t : Int} (h : getE es x t = none) : ∀ e ∈ es, keyC e ≠ (x, t) := by
  induction es with
  | nil => intro e he; cases he
  | cons e es ih =>
    unfold getE findC at h
    by_cases hk : e.s = x ∧ e.t = t
    · rw [if_pos hk] at h
      simp at h
    · rw [if_neg hk] at h
      have h2 : getE es x t = none := by
        unfold getE
        cases hf : findC es x t with
        | none => rfl
        | some k => rw [hf] at h; simpa using h
      intro e' he'
      rcases List.mem_cons.1 he' with rfl | he'
      · exact fun h3 => hk (Prod.mk.inj h3)
      · exact ih h2 e' he'
theorem getE_some {es : List Ce} {x : ByteArray} {t : Int} {e : Ce} (h : getE es x t = some e) : e ∈ es ∧ keyC e = (x, t) := by
  unfold getE at h
  cases hf : findC es x t with
  | none => rw [hf] at h; cases h
  | some k =>
    rw [hf] at h
    obtain ⟨hk, h1, h2⟩ := findC_lt x t es k hf
    simp only at h
    rw [List.getElem?_eq_getElem hk] at h
    cases h
    exact ⟨List.getElem_mem hk, Prod.ext h1 h2⟩
section
variable {w w' : World} {b : Nat} {es es' : List Ce}
theorem CacMap.perm (h : CacMap w b es) (hp : es.Perm es') : CacMap w b es' := by
  obtain ⟨n, D, ho, hn, l, hD, hl⟩ := h
  exact ⟨n, D, ho, hn, l, hD, hl.trans (hp.map _)⟩
theorem CacMap.kept (h : CacMap w b es) (hk : w'.heap[b]? = w.heap[b]?) : CacMap w' b es := by
  obtain ⟨n, D, ⟨es0, cl, hb, r⟩, hn⟩ := h
  exact ⟨n, D, ⟨es0, cl, hk.trans hb, r⟩, hn⟩
theorem CacMap.lt (h : CacMap w b es) : b < w.heap.size := by
  obtain ⟨n, D, ho, _⟩ := h
  exact ho.lt
theorem CacMap.block (h : CacMap w b es) : ∃ e0 cl, w.heap[b]? = some (.map e0 cl) := by
  obtain ⟨n, D, ⟨e0, cl, hb, _⟩, _⟩ := h
  exact ⟨e0, cl, hb⟩
theorem CacMap.owns (h : CacMap w b es) : ∃ D, w.ownsMap Try.prog 39 elemV b es.length D ∧ TellsC D es := by
  obtain ⟨n, D, ⟨e0, cl, hb, F, hs, hD⟩, hn, l, rfl, hl⟩ := h
  refine ⟨.map l, ⟨e0, cl, hb, F, ?_, hD⟩, l, rfl, hl⟩
  injection hD with hD
  have h1 := hl.length_eq
  rw [hD, length_sorted] at h1
  simp at h1
  simpa using Nat.le_of_eq h1
theorem CacMap.len (h : CacMap w b es) (ty : TypeId) : (Builtin.len_ #[66] ty #[.map (some b)]).run Try.prog w = .ok (.int .i64 (es.length : Int)) w := by
  obtain ⟨n, D, ho, hn, l, rfl, hl⟩ := h
  have h1 : l.length = es.length := by rw [hl.length_eq]; simp
  rw [ho.len Try.underlying66 ty, size_eq, h1]
theorem CacMap.look (h : CacMap w b es) (hk : KeysOk es) (ha : KeysApart es) (x : ByteArray) (t : Int) (hp : KeyOk (x, t)) :
    (Instr.lookup 66 (.map (some b)) (keyV (x, t)) true).run Try.prog w = .ok (.tuple #[((getE es x t).map entV).getD zeroE, .bool (getE es x t).isSome]) w := by
  obtain ⟨n, D, ho, hn, l, rfl, hl⟩ := h
  have hz : (zeroValue 78).run Try.prog w = .ok zeroE w := by kernel_rfl
  obtain ⟨v, ps, hr, hv⟩ := ho.look_ok lawK Try.underlying66 hz (show elemV zeroE = some (.held zeroE, []) from rfl) (keyOf_key _ hp)
  have hv2 := elemV_inv hv
  rw [hr]
  cases hg : getE es x t with
  | none =>
    have hno : Maps.has (DataW.map l) (keyLit (x, t)) = false := by
      rw [has_eq, List.any_eq_false]
      intro p hp2
      obtain ⟨e, he, rfl⟩ := List.mem_map.1 (hl.mem_iff.1 hp2)
      show ¬ (keyLit (keyC e)).sameKey (keyLit (x, t)) = true
      rw [same_lit (hk e he) hp]
      simpa using getE_none hg e he
    rw [Maps.atKey_of_not_has hno] at hv2
    rw [hno]
    injection hv2 with hv2
    rw [← hv2]; rfl
  | some e =>
    obtain ⟨he, hke⟩ := getE_some hg
    have hm : (keyLit (x, t), DataW.held (entV e)) ∈ l := hl.mem_iff.2 (by rw [← hke]; exact List.mem_map.2 ⟨e, he, rfl⟩)
    have hap : l.Pairwise (fun p q => p.1 ≠ q.1) := (hl.pairwise_iff (fun {_ _} hne => Ne.symm hne)).2 (entD_apart hk ha)
    have hat := fun z => WideAt.atKey_mem z (isKeyLit (x, t)) hap hm
    rw [Maps.has_true_of_atKey hat]
    rw [hat] at hv2
    injection hv2 with hv2
    rw [← hv2]; rfl
/-- The entries of other keys. -/
def withoutC (es : List Ce) (p : ByteArray × Int) : List Ce := es.filter (fun e => !decide (keyC e = p))
theorem filter_notKey (es : List Ce) (hk : KeysOk es) (p : ByteArray × Int) (hp : KeyOk p) : (es.map entD).filter (ChangeMaps.notKey (keyLit p)) = (withoutC es p).map entD := by
  unfold withoutC
  rw [List.filter_map]
  congr 1
  refine List.filter_congr (fun e he => ?_)
  show (!(keyLit (keyC e)).sameKey (keyLit p)) = _
  rw [same_lit (hk e he) hp]
theorem CacMap.store (h : CacMap w b es) (hk : KeysOk es) (e : Ce) (hp : KeyOk (keyC e)) (hl : es.length ≤ 1000) :
    ∃ w', (Instr.mapUpdate 66 (.map (some b)) (keyV (keyC e)) (entV e)).run Try.prog w = .ok () w' ∧ CacMap w' b (e :: withoutC es (keyC e)) ∧ w.mapTurned w' b := by
  obtain ⟨D, ho, l, rfl, hl2⟩ := h.owns
  obtain ⟨w', hr, ho', ht⟩ := ho.store lawK Try.underlying66 (by unfold maxLen; omega) (keyOf_key _ hp) (show elemV (entV e) = some (.held (entV e), []) from rfl)
  refine ⟨w', hr, ⟨_, _, ho', by omega, ?_⟩, ht⟩
  rw [DataW.put_eq]
  refine ⟨_, rfl, ?_⟩
  refine (WideShapes.insert_perm _ _).trans ?_
  show List.Perm _ (entD e :: (withoutC es (keyC e)).map entD)
  refine List.Perm.cons _ ?_
  rw [← filter_notKey es hk _ hp]
  exact hl2.filter _
theorem CacMap.drop (h : CacMap w b es) (hk : KeysOk es) (p : ByteArray × Int) (hp : KeyOk p) (ty : TypeId) :
    ∃ w', (Builtin.delete_ #[66, 39] ty #[.map (some b), keyV p]).run Try.prog w = .ok (.tuple #[]) w' ∧ CacMap w' b (withoutC es p) ∧ w.mapTurned w' b := by
  obtain ⟨n, D, ho, hn, l, rfl, hl⟩ := h
  obtain ⟨w', hr, ho', ht⟩ := ho.drop lawK Try.underlying66 (keyOf_key _ hp) ty
  refine ⟨w', hr, ⟨_, _, ho', hn, ?_⟩, ht⟩
  rw [DataW.del_eq]
  refine ⟨_, rfl, ?_⟩
  rw [← filter_notKey es hk _ hp]
  exact hl.filter _
theorem cacMap_made (w : World) : CacMap (w.alloc (.map #[] 0)) w.heap.size [] := ⟨0, _, World.ownsMap_made w _ _ _, by decide, [], rfl, .refl _⟩
end
end Go.Proofs.Ytjmmedpkcedngaa
/- Contract of the reference's Sweep of layer 10: all that are over are taken out. -/
namespace Go.Proofs.Ytjmmedpkcedngaa
open Go.RowKit
set_option linter.unusedVariables false
set_option maxRecDepth 20000

/-- All that are not over. -/
def sweepC (es : List Ce) (now : Int) : List Ce := es.filter (fun e => decide (now < e.u))
theorem sweepC_len (es : List Ce) (now : Int) : (sweepC es now).length ≤ es.length := List.length_filter_le _ _
theorem sweepC_next (es : List Ce) (now : Int) (k : Nat) (hk : k < es.length) : sweepC (es.take (k + 1)) now = sweepC (es.take k) now ++ (if now < es[k].u then [es[k]] else []) := by
  unfold sweepC
  rw [List.take_succ_eq_append_getElem hk, List.filter_append]
  congr 1
  by_cases h : now < es[k].u <;> simp [h]
set_option maxRecDepth 100000 in
set_option maxHeartbeats 1000000 in
theorem refSweepC_any (room : Int) (v : Value) (es : List Ce) (now : Int) (w : World) (base : Nat) (hE : RowC w base v es) :
    Calls Try.prog 26 #[ccV room v, .int .i64 now] w fun e w' => ∃ v', e = .returned (.tuple #[ccV room v', .int .i64 ((es.length - (sweepC es now).length : Nat) : Int)]) ∧ RowC w' w.heap.size v' (sweepC es now) ∧ Below w.heap.size w w' := by
  have hlen := hE.2
  obtain ⟨W, hW⟩ : ∃ W, (w.alloc (.cells #[.int .i64 room, v] 27)).alloc (.cells #[.int .i64 0, .slice none 0 0] 27) = W := ⟨_, rfl⟩
  have hsz : W.heap.size = w.heap.size + 2 := by rw [← hW]; simp
  have HB : Hid (Below w.heap.size w W) := Lib.hid (by rw [← hW]; exact ((Below.refl _ _).alloc (Nat.le_refl _) _).alloc (by simp) _)
  have HC : Hid (CellsAt W w.heap.size [.int .i64 room, v]) := Lib.hid (by rw [← hW]; exact (CellsAt.new w 27 [.int .i64 room, v]).below ((Below.refl _ _).alloc (Nat.le_refl _) _))
  have HZ : Hid (CellsAt W (w.heap.size + 1) [.int .i64 0, .slice none 0 0]) := Lib.hid (by
    have := CellsAt.new (w.alloc (.cells #[.int .i64 room, v] 27)) 27 [.int .i64 0, .slice none 0 0]
    rw [← hW]; simpa using this)
  have HSZ := Lib.hid hsz
  rcases hE.form with ⟨rfl, rfl⟩ | ⟨g, cap, rfl, hg1, hg2, hcap, hcap2, hrg⟩
  · clear hE hsz
    go_enter Try.func26, Try.ntmps26
    go_upto_region 1 with fail
    first | rw [hW] | skip
    clear hW
    have h1 := HC.out.cell 1 _ rfl
    have hl1 := HC.out.live 1 (by simp)
    go_wp2_with fail
    go_loop [6, 7] (fun o i => i = .int .i64 0 ∧ o = .slice none 0 0) (fun _ _ => 0)
    case atStart => exact ⟨rfl, rfl⟩
    case round =>
      obtain ⟨rfl, rfl⟩ := hrel
      have HC2 := Lib.hid (HC.out.set 1 (.slice none 0 0) (by simp))
      have HZ2 := Lib.hid (HZ.out.other (G' := w.heap.size) (by omega) 1 (.slice none 0 0))
      go_wp2_with (first | refine load_cc HC2 rfl _ rfl rfl rfl ?_ | (refine store_cc HZ2 rfl _ _ rfl rfl rfl rfl rfl rfl (fun V HV HVC => ?_)))
      refine bodyPost_ret (results_cc2 Try.results26 rfl HVC.out rfl) rfl ⟨_, rfl, RowC.nil _ _, ?_⟩
      rw [HV.out]
      exact below_cells (by omega) _ _ _ (HB.out.setCell (by show w.heap.size ≤ w.heap.size; omega) _)
  · have HR1 := Lib.hid (range_belowC hrg HB.out hg2)
    clear hE hrg
    go_enter Try.func26, Try.ntmps26
    go_upto_region 1 with fail
    first | rw [hW] | skip
    clear hW
    have HN0 := Lib.hid (RowC.nil W (w.heap.size + 2))
    go_wp2_with fail
    go_loopw [6, 7] (fun o i wr => ∃ k : Nat, k ≤ es.length ∧ i = .int .i64 (k : Int) ∧ Hid (RowC wr (w.heap.size + 2) o (sweepC (es.take k) now)) ∧ Hid (CellsAt wr w.heap.size [.int .i64 room, .slice (some ⟨g, 0, none⟩) es.length cap]) ∧ Hid (CellsAt wr (w.heap.size + 1) [.int .i64 0, .slice none 0 0]) ∧ Hid (wr.rangeAt g 0 (flatC es)) ∧ Hid (Below w.heap.size w wr)) (fun _ i _ => es.length - (intOf i).toNat)
    case atStart => exact ⟨0, Nat.zero_le _, rfl, HN0, HC, HZ, HR1, HB⟩
    case round =>
      obtain ⟨k, hk, rfl, HO, HP, HQ, HG, HBL⟩ := hrel
      clear HN0 HC HZ HR1 HB HSZ hsz
      have h1 := HP.out.cell 1 _ rfl
      have hl1 := HP.out.live 1 (by simp)
      by_cases hkl : k < es.length
      · have hd : decide ((k : Int) < (es.length : Int)) = true := by simp; omega
        have hdn : decide (k < es.length) = true := by simp; omega
        have hki : (k : Int) < (es.length : Int) := by omega
        have HNX := Lib.hid (sweepC_next es now k hkl)
        have HKE := Lib.hid (range_ce HG.out k hkl)
        rw [Nat.zero_add] at HKE
        generalize es[k] = en at *
        have hc3 : wr.cell? ⟨g, k * 4 + 3, none⟩ = some (.int .i64 en.u) := HKE.out 3 _ rfl
        by_cases hu : now < en.u
        · have hdu : decide (now < en.u) = true := decide_eq_true hu
          rw [if_pos hu] at HNX
          have HM5 : Hid (1 = [en].length) := Lib.hid rfl
          have HL5 : Hid ((sweepC (es.take k) now).length + [en].length ≤ 1000) := Lib.hid (by have := sweepC_len (es.take k) now; rw [List.length_take] at this; simp; omega)
          have HS0 : Hid (w.heap.size + 2 ≤ wr.heap.size) := Lib.hid HQ.out.lt
          go_wp2_with (first
            | refine load_ceo HKE _ rfl rfl rfl ?_
            | (refine build_ceS rfl _ rfl rfl (fun W5 HW5 => ?_); have HB5 : Hid (Below wr.heap.size wr W5) := Lib.hid (by rw [HW5.out]; exact (Below.refl _ _).alloc (Nat.le_refl _) _); have HO5 := Lib.hid (HO.out.below HB5.out); have HR5 : Hid (W5.rangeAt wr.heap.size 0 (flatC [en])) := Lib.hid (by rw [HW5.out]; exact ceS_new _); have HS5 := Lib.hid (Nat.le_trans HS0.out HB5.out.size))
            | (at_builtin; refine append_ces HO5 _ _ rfl rfl rfl [en] rfl HM5 HR5 HL5 HS5 (fun v6 w6 HO6 HG6 HA6 => ?_)))
          have hb6 : Below (w.heap.size + 2) wr w6 := ((HB5.out.mono HS0.out)).grown HG6.out HS5.out (fun j hj => (HO5.out.1.lt j hj).1)
          go_roundw
          case rel => exact ⟨k + 1, by omega, by go_num, Lib.hid (by rw [HNX.out]; exact HO6.out), Lib.hid (HP.out.belowB hb6 (by omega)), Lib.hid (HQ.out.belowB hb6 (by omega)), Lib.hid (range_belowC HG.out hb6 (by omega)), Lib.hid (HBL.out.trans (hb6.mono (by omega)))⟩
          case measure => simp [intOf]; omega
        · have hdu : decide (now < en.u) = false := decide_eq_false hu
          rw [if_neg hu, List.append_nil] at HNX
          go_wp2_with fail
          go_roundw
          case rel => exact ⟨k + 1, by omega, by go_num, Lib.hid (by rw [HNX.out]; exact HO.out), HP, HQ, HG, HBL⟩
          case measure => simp [intOf]; omega
      · obtain rfl : k = es.length := by omega
        have hd : decide ((es.length : Int) < (es.length : Int)) = false := by simp
        have HO2 := HO.out
        rw [List.take_length] at HO2
        have HOE := Lib.hid HO2
        have hle := sweepC_len es now
        obtain ⟨D, hD⟩ : ∃ D, sweepC es now = D := ⟨_, rfl⟩
        have HD := Lib.hid hD
        rw [hD] at hle HOE
        rw [hD] at HO2
        obtain ⟨ad, c, rfl⟩ := HO2.slice
        clear hD
        have hw : ((es.length : Int) - (D.length : Int)) = ((es.length - D.length : Nat) : Int) := by omega
        have HC2 := Lib.hid (HP.out.set 1 (.slice ad D.length c) (by simp))
        have HZ2 := Lib.hid (HQ.out.other (G' := w.heap.size) (by omega) 1 (.slice ad D.length c))
        clear HO HO2
        go_wp2_with (first | refine load_cc HC2 rfl _ rfl rfl rfl ?_ | (refine store_cc HZ2 rfl _ _ rfl rfl rfl rfl rfl rfl (fun V HV HVC => ?_)))
        refine bodyPost_ret (results_cc2 Try.results26 rfl HVC.out rfl) rfl ⟨.slice ad D.length c, ?_, ?_, ?_⟩
        · rw [HD.out]; rfl
        · rw [HD.out, HV.out]
          exact ((HOE.out.set (by omega)).sets (by omega)).mono (by omega)
        · rw [HV.out]
          exact below_cells (by omega) _ _ _ (HBL.out.setCell (by show w.heap.size ≤ w.heap.size; omega) _)
end Go.Proofs.Ytjmmedpkcedngaa
/- The row of keys, and what a cache holds behind a Put: plain facts. -/
namespace Go.Proofs.Ytjmmedpkcedngaa
open Go.RowKit Go.Maps
set_option linter.unusedVariables false
set_option maxRecDepth 20000

theorem ltB_eq (x y : ByteArray) : ltB x y = decide (x.data.toList < y.data.toList) := by
  unfold ltB
  rw [bytesLess_eq, ByteArray.toList_eq, ByteArray.toList_eq]
theorem ltB_irrefl (x : ByteArray) : ltB x x = false := by rw [ltB_eq]; simp [List.lt_irrefl]
theorem ltB_trans {x y z : ByteArray} (h1 : ltB x y = true) (h2 : ltB y z = true) : ltB x z = true := by
  rw [ltB_eq, decide_eq_true_eq] at *
  exact List.lt_trans h1 h2
theorem ltB_total {x y : ByteArray} (h : x ≠ y) : ltB x y = true ∨ ltB y x = true := by
  rw [ltB_eq, ltB_eq, decide_eq_true_eq, decide_eq_true_eq]
  by_cases h1 : x.data.toList < y.data.toList
  · exact .inl h1
  · by_cases h2 : y.data.toList < x.data.toList
    · exact .inr h2
    · exact absurd (bytes_ext (List.le_antisymm (List.not_lt.1 h2) (List.not_lt.1 h1))) h
/-- The row of keys. -/
def ltK (p q : ByteArray × Int) : Bool := ltB p.1 q.1 || (decide (p.1 = q.1) && decide (p.2 < q.2))
theorem ltK_irrefl (p : ByteArray × Int) : ltK p p = false := by unfold ltK; rw [ltB_irrefl]; simp
theorem ltK_iff (p q : ByteArray × Int) : ltK p q = true ↔ ltB p.1 q.1 = true ∨ (p.1 = q.1 ∧ p.2 < q.2) := by unfold ltK; simp
theorem ltK_trans {p q r : ByteArray × Int} (h1 : ltK p q = true) (h2 : ltK q r = true) : ltK p r = true := by
  rw [ltK_iff] at *
  rcases h1 with h1 | ⟨e1, h1⟩ <;> rcases h2 with h2 | ⟨e2, h2⟩
  · exact .inl (ltB_trans h1 h2)
  · exact .inl (e2 ▸ h1)
  · exact .inl (e1 ▸ h2)
  · exact .inr ⟨e1.trans e2, by omega⟩
theorem ltK_total {p q : ByteArray × Int} (h : p ≠ q) : ltK p q = true ∨ ltK q p = true := by
  rw [ltK_iff, ltK_iff]
  by_cases e : p.1 = q.1
  · have : p.2 ≠ q.2 := fun e2 => h (Prod.ext e e2)
    rcases Int.lt_or_gt_of_ne this with h2 | h2
    · exact .inl (.inr ⟨e, h2⟩)
    · exact .inr (.inr ⟨e.symm, h2⟩)
  · rcases ltB_total e with h2 | h2
    · exact .inl (.inl h2)
    · exact .inr (.inl h2)
theorem ltK_asymm {p q : ByteArray × Int} (h : ltK p q = true) : ltK q p = false := by
  cases h2 : ltK q p
  · rfl
  · have := ltK_trans h h2
    rw [ltK_irrefl] at this
    cases this
theorem cmpKey_neg (p q : ByteArray × Int) : decide (cmpKey p q < 0) = ltK p q := by
  unfold cmpKey orI cmpS cmpI ltK
  cases hb : ltB p.1 q.1
  · by_cases e : p.1 = q.1
    · by_cases h1 : p.2 < q.2
      · simp [e, h1]
      · by_cases h2 : q.2 < p.2 <;> simp [e, h1, h2]
    · simp [e]
  · simp
def SortedC (es : List Ce) : Prop := es.Pairwise (fun a b => ltK (keyC a) (keyC b) = true)
theorem SortedC.apart {es : List Ce} (h : SortedC es) : KeysApart es := h.imp (fun h e => by rw [e, ltK_irrefl] at h; cases h)
theorem sorted_keys {es : List Ce} (h : SortedC es) {ks : List (ByteArray × Int)} (hp : ks.Perm (es.map keyC)) : ks.mergeSort (fun x y => !ltK y x) = es.map keyC := by
  have tr : ∀ a b c : ByteArray × Int, (!ltK b a) = true → (!ltK c b) = true → (!ltK c a) = true := fun a b c h1 h2 => by
    rw [Bool.not_eq_true'] at *
    cases hca : ltK c a
    · rfl
    · by_cases e : b = c
      · subst e; rw [hca] at h1; cases h1
      · rcases ltK_total e with h3 | h3
        · rw [ltK_trans h3 hca] at h1; cases h1
        · rw [h3] at h2; cases h2
  have to : ∀ a b : ByteArray × Int, ((!ltK b a) || (!ltK a b)) = true := fun a b => by
    cases h1 : ltK b a
    · rfl
    · rw [ltK_asymm h1]; rfl
  refine List.Perm.eq_of_pairwise (le := fun a b => (!ltK b a) = true) (fun a b _ _ h1 h2 => ?_) (List.pairwise_mergeSort tr to ks) ?_ ((List.mergeSort_perm ks _).trans hp)
  · by_cases e : a = b
    · exact e
    · rw [Bool.not_eq_true'] at h1 h2
      rcases ltK_total e with h3 | h3
      · rw [h3] at h2; cases h2
      · rw [h3] at h1; cases h1
  · rw [List.pairwise_map]
    exact h.imp (fun h => by rw [ltK_asymm h]; rfl)
/-- Where an entry goes. -/
def placeC (p : ByteArray × Int) (es : List Ce) : Nat → Nat
  | 0 => 0
  | k + 1 => match es[k]? with
    | some e => if ltK p (keyC e) then placeC p es k else k + 1
    | none => k + 1
theorem placeC_le (p : ByteArray × Int) (es : List Ce) : ∀ n, placeC p es n ≤ n
  | 0 => Nat.le_refl _
  | k + 1 => by
    unfold placeC
    split
    · split
      · have := placeC_le p es k; omega
      · omega
    · omega
theorem placeC_yes {p : ByteArray × Int} {es : List Ce} {k : Nat} (hk : k < es.length) (h : ltK p (keyC es[k]) = true) : placeC p es (k + 1) = placeC p es k := by
  rw [placeC, List.getElem?_eq_getElem hk]; simp [h]
theorem placeC_no {p : ByteArray × Int} {es : List Ce} {k : Nat} (hk : k < es.length) (h : ltK p (keyC es[k]) = false) : placeC p es (k + 1) = k + 1 := by
  rw [placeC, List.getElem?_eq_getElem hk]; simp [h]
theorem placeC_after (p : ByteArray × Int) (es : List Ce) : ∀ n, n ≤ es.length → ∀ j (hj : j < es.length), placeC p es n ≤ j → j < n → ltK p (keyC es[j]) = true
  | 0, _, j, hj, _, h => absurd h (by omega)
  | k + 1, hn, j, hj, h1, h2 => by
    have hk : k < es.length := by omega
    cases h : ltK p (keyC es[k])
    · rw [placeC_no hk h] at h1; omega
    · rw [placeC_yes hk h] at h1
      by_cases e : j = k
      · subst e; exact h
      · exact placeC_after p es k (by omega) j hj h1 (by omega)
theorem placeC_before (p : ByteArray × Int) (es : List Ce) : ∀ n, n ≤ es.length → ∀ k, placeC p es n = k + 1 → ∃ hk : k < es.length, ltK p (keyC es[k]) = false
  | 0, _, k, h => by cases h
  | n + 1, hn, k, h => by
    have hk : n < es.length := by omega
    cases h2 : ltK p (keyC es[n])
    · rw [placeC_no hk h2] at h
      obtain rfl : n = k := by omega
      exact ⟨hk, h2⟩
    · rw [placeC_yes hk h2] at h
      exact placeC_before p es n (by omega) k h
def insC (own : Ce) (es : List Ce) : List Ce := es.take (placeC (keyC own) es es.length) ++ own :: es.drop (placeC (keyC own) es es.length)
theorem insC_perm (own : Ce) (es : List Ce) : (insC own es).Perm (own :: es) := by
  unfold insC
  refine List.perm_middle.trans ?_
  rw [List.take_append_drop]
theorem insC_len (own : Ce) (es : List Ce) : (insC own es).length = es.length + 1 := by rw [(insC_perm own es).length_eq]; rfl
theorem insC_sorted {own : Ce} {es : List Ce} (h : SortedC es) (hn : ∀ e ∈ es, keyC e ≠ keyC own) : SortedC (insC own es) := by
  have hle := placeC_le (keyC own) es es.length
  have hA := placeC_after (keyC own) es es.length (Nat.le_refl _)
  have hB := placeC_before (keyC own) es es.length (Nat.le_refl _)
  have hs : ∀ i j (hi : i < es.length) (hj : j < es.length), i < j → ltK (keyC es[i]) (keyC es[j]) = true := fun i j hi hj hij => List.pairwise_iff_getElem.1 h i j hi hj hij
  unfold insC SortedC
  generalize placeC (keyC own) es es.length = k at *
  rw [List.pairwise_append]
  refine ⟨h.take, ?_, ?_⟩
  · rw [List.pairwise_cons]
    refine ⟨fun e he => ?_, h.drop⟩
    obtain ⟨j, hj, rfl⟩ := List.getElem_of_mem he
    rw [List.getElem_drop]
    rw [List.length_drop] at hj
    exact hA (k + j) (by omega) (by omega) (by omega)
  · intro a ha b hb
    obtain ⟨i, hi, rfl⟩ := List.getElem_of_mem ha
    rw [List.length_take] at hi
    rw [List.getElem_take]
    have hio : ltK (keyC es[i]) (keyC own) = true := by
      cases k with
      | zero => omega
      | succ k =>
        obtain ⟨hk, h1⟩ := hB k rfl
        have h2 : ltK (keyC es[k]) (keyC own) = true := by
          rcases ltK_total (hn _ (List.getElem_mem hk)) with h3 | h3
          · exact h3
          · rw [h1] at h3; cases h3
        by_cases e : i = k
        · subst e; exact h2
        · exact ltK_trans (hs i k (by omega) hk (by omega)) h2
    rcases List.mem_cons.1 hb with rfl | hb
    · exact hio
    · obtain ⟨j, hj, rfl⟩ := List.getElem_of_mem hb
      rw [List.getElem_drop]
      rw [List.length_drop] at hj
      exact hs i (k + j) (by omega) (by omega) (by omega)
/-- The first one whose until is least. -/
def uAt (es : List Ce) (k : Nat) : Int := match es[k]? with
  | some e => e.u
  | none => 0
theorem uAt_eq {es : List Ce} {k : Nat} (hk : k < es.length) : uAt es k = es[k].u := by unfold uAt; rw [List.getElem?_eq_getElem hk]
def bestC (es : List Ce) : Nat → Nat
  | 0 => 0
  | k + 1 => if uAt es k < uAt es (bestC es k) then k else bestC es k
theorem bestC_one (es : List Ce) : bestC es 1 = 0 := by unfold bestC bestC; simp
theorem bestC_lt (es : List Ce) : ∀ k, bestC es (k + 1) ≤ k
  | 0 => by rw [bestC_one]; omega
  | k + 1 => by
    unfold bestC
    split
    · omega
    · have := bestC_lt es k; omega
theorem bestC_least (es : List Ce) : ∀ n j, j < n → uAt es (bestC es n) ≤ uAt es j ∧ (j < bestC es n → uAt es (bestC es n) < uAt es j)
  | 0, j, h => absurd h (by omega)
  | k + 1, j, h => by
    have ih := bestC_least es k
    unfold bestC
    split
    · rename_i hlt
      by_cases e : j = k
      · subst e; exact ⟨Int.le_refl _, fun h => absurd h (by omega)⟩
      · have := (ih j (by omega)).1
        exact ⟨by omega, fun _ => by omega⟩
    · rename_i hlt
      by_cases e : j = k
      · subst e
        refine ⟨by omega, fun h2 => ?_⟩
        have : bestC es j ≤ j := by
          cases j with
          | zero => exact Nat.le_refl _
          | succ j => have := bestC_lt es j; omega
        omega
      · exact ih j (by omega)
/-- What the reference's Put leaves, and whom it lets go. -/
def putC (room : Int) (es : List Ce) (own : Ce) (now : Int) : List Ce × Option Ce :=
  match findC es own.s own.t with
  | some i => (insC own (cutC es i), none)
  | none => if (es.length : Int) = room then
      (if ((sweepC es now).length : Int) = room then (insC own (cutC (sweepC es now) (bestC (sweepC es now) (sweepC es now).length)), (sweepC es now)[bestC (sweepC es now) (sweepC es now).length]?) else (insC own (sweepC es now), none))
    else (insC own es, none)
theorem sweepC_sorted {es : List Ce} (h : SortedC es) (now : Int) : SortedC (sweepC es now) := h.filter _
theorem cutC_sorted {es : List Ce} (h : SortedC es) (i : Nat) : SortedC (cutC es i) := by
  unfold cutC SortedC
  rw [List.pairwise_append]
  refine ⟨h.take, h.drop, fun a ha b hb => ?_⟩
  obtain ⟨x, hx, rfl⟩ := List.getElem_of_mem ha
  obtain ⟨y, hy, rfl⟩ := List.getElem_of_mem hb
  rw [List.length_take] at hx
  rw [List.length_drop] at hy
  rw [List.getElem_take, List.getElem_drop]
  exact List.pairwise_iff_getElem.1 h _ _ (by omega) (by omega) (by omega)
theorem cutC_mem {es : List Ce} {i : Nat} {e : Ce} (h : e ∈ cutC es i) : e ∈ es := by
  unfold cutC at h
  rcases List.mem_append.1 h with h | h
  · exact List.mem_of_mem_take h
  · exact List.mem_of_mem_drop h
theorem withoutC_none {es : List Ce} {p : ByteArray × Int} (h : ∀ e ∈ es, keyC e ≠ p) : withoutC es p = es := by
  unfold withoutC
  exact List.filter_eq_self.2 (fun e he => by simp [h e he])
theorem withoutC_cut : ∀ {es : List Ce} (ha : KeysApart es) (i : Nat) (hi : i < es.length), withoutC es (keyC es[i]) = cutC es i
  | [], _, i, hi => absurd hi (by simp)
  | e :: es, ha, 0, hi => by
    obtain ⟨h1, h2⟩ := List.pairwise_cons.1 ha
    show withoutC (e :: es) (keyC e) = es
    unfold withoutC
    rw [List.filter_cons_of_neg (by simp)]
    exact withoutC_none (fun x hx => (h1 x hx).symm)
  | e :: es, ha, i + 1, hi => by
    obtain ⟨h1, h2⟩ := List.pairwise_cons.1 ha
    have hi2 : i < es.length := by simpa using hi
    have ih := withoutC_cut h2 i hi2
    show withoutC (e :: es) (keyC es[i]) = e :: cutC es i
    rw [← ih]
    unfold withoutC
    rw [List.filter_cons_of_pos (by simpa using h1 _ (List.getElem_mem hi2))]
theorem withoutC_no (es : List Ce) (p : ByteArray × Int) : ∀ e ∈ withoutC es p, keyC e ≠ p := fun e he => by
  have := (List.mem_filter.1 he).2
  simpa using this
theorem sweepC_same {es : List Ce} {now : Int} (h : (sweepC es now).length = es.length) : sweepC es now = es := by
  unfold sweepC at *
  exact List.filter_eq_self.2 (List.length_filter_eq_length_iff.1 h)
theorem findC_none_iff {es : List Ce} {x : ByteArray} {t : Int} (h : findC es x t = none) : ∀ e ∈ es, keyC e ≠ (x, t) := getE_none (by unfold getE; rw [h])
/-- What a Put leaves is sorted, and no more than there is room for. -/
theorem putC_ok {room : Int} {es : List Ce} {own : Ce} {now : Int} (h : SortedC es) (hr : (es.length : Int) ≤ room) (h1 : 1 ≤ room) : SortedC (putC room es own now).1 ∧ ((putC room es own now).1.length : Int) ≤ room ∧ ∀ e ∈ (putC room es own now).1, e = own ∨ e ∈ es := by
  have mem : ∀ {l : List Ce} {e}, e ∈ insC own l → e = own ∨ e ∈ l := fun he => by simpa using (insC_perm own _).mem_iff.1 he
  unfold putC
  cases hf : findC es own.s own.t with
  | some i =>
    obtain ⟨hi, hk⟩ := findC_lt _ _ _ _ hf
    have e : keyC es[i] = keyC own := Prod.ext hk.1 hk.2
    have hc := withoutC_cut h.apart i hi
    refine ⟨insC_sorted (cutC_sorted h i) (fun x hx => ?_), ?_, fun x hx => (mem hx).imp id cutC_mem⟩
    · rw [← hc, e] at hx
      exact withoutC_no _ _ x hx
    · have := cutC_len es i hi
      simp only [insC_len]
      omega
  | none =>
    have hno := findC_none_iff hf
    have hno2 : ∀ e ∈ sweepC es now, keyC e ≠ keyC own := fun e he => hno e (List.mem_filter.1 he).1
    have hl := sweepC_len es now
    simp only
    split
    · split
      · rename_i _ h3
        have hb : bestC (sweepC es now) (sweepC es now).length < (sweepC es now).length := by
          cases hn : (sweepC es now).length with
          | zero => rw [hn] at h3; omega
          | succ n => have := bestC_lt (sweepC es now) n; omega
        have := cutC_len _ _ hb
        refine ⟨insC_sorted (cutC_sorted (sweepC_sorted h now) _) (fun e he => hno2 e (cutC_mem he)), ?_, fun e he => (mem he).imp id (fun he => (List.mem_filter.1 (cutC_mem he)).1)⟩
        simp only [insC_len]
        omega
      · refine ⟨insC_sorted (sweepC_sorted h now) hno2, ?_, fun e he => (mem he).imp id (fun he => (List.mem_filter.1 he).1)⟩
        simp only [insC_len]
        omega
    · refine ⟨insC_sorted h hno, ?_, fun e he => mem he⟩
      simp only [insC_len]
      omega
end Go.Proofs.Ytjmmedpkcedngaa
/- Rows of keys of one's own (cache.Key: 2 cells). -/
namespace Go.Proofs.Ytjmmedpkcedngaa
open Go.RowKit
set_option linter.unusedVariables false
set_option maxRecDepth 20000

def flatK (D : List (ByteArray × Int)) : List Value := D.flatMap keyL
theorem flatK_len : ∀ (D : List (ByteArray × Int)), (flatK D).length = D.length * 2
  | [] => rfl
  | e :: es => by
    have h2 := flatK_len es
    show (keyL e ++ flatK es).length = _
    rw [List.length_append, h2, List.length_cons]
    show 2 + es.length * 2 = _
    omega
theorem flatK_append (xs ys : List (ByteArray × Int)) : flatK (xs ++ ys) = flatK xs ++ flatK ys := by simp [flatK]
theorem flatK_one (D : List (ByteArray × Int)) : ∀ u ∈ flatK D, u.oneCell' = true := by
  intro u hu
  obtain ⟨e, he, h2⟩ := List.mem_flatMap.1 hu
  unfold keyL at h2
  simp at h2
  rcases h2 with rfl | rfl <;> rfl
theorem flatK_at : ∀ (es : List (ByteArray × Int)) k (hk : k < es.length) j, j < 2 → (flatK es)[k * 2 + j]? = (keyL es[k])[j]?
  | [], k, hk, j, hj => absurd hk (by simp)
  | e :: es, k, hk, j, hj => by
    have h1 : (keyL e).length = 2 := rfl
    show (keyL e ++ flatK es)[k * 2 + j]? = _
    cases k with
    | zero => rw [Nat.zero_mul, Nat.zero_add, List.getElem?_append_left (by omega)]; rfl
    | succ k =>
      rw [List.getElem?_append_right (by omega), h1, show (k + 1) * 2 + j - 2 = k * 2 + j by omega]
      exact flatK_at es k (by simpa using hk) j hj
theorem flatK_take (es : List (ByteArray × Int)) (k : Nat) (hk : k ≤ es.length) : ∀ (j : Nat) (u : Value), (flatK (es.take k))[j]? = some u → (flatK es)[j]? = some u := by
  intro j u h
  have e : flatK es = flatK (es.take k) ++ flatK (es.drop k) := by rw [← flatK_append, List.take_append_drop]
  have hj : j < (flatK (es.take k)).length := by
    apply Classical.byContradiction
    intro h2
    rw [List.getElem?_eq_none (by omega)] at h
    cases h
  rw [e, List.getElem?_append_left hj]
  exact h
theorem flatK_drop (es : List (ByteArray × Int)) (k : Nat) (hk : k ≤ es.length) : ∀ (j : Nat), (flatK (es.drop k))[j]? = (flatK es)[k * 2 + j]? := by
  intro j
  have e : flatK es = flatK (es.take k) ++ flatK (es.drop k) := by rw [← flatK_append, List.take_append_drop]
  have hl : (flatK (es.take k)).length = k * 2 := by rw [flatK_len, List.length_take, Nat.min_eq_left hk]
  rw [e, List.getElem?_append_right (by omega), hl]
  congr 1
  omega
abbrev zK : Array Value := #[.string ⟨#[]⟩, .int .i64 0]
theorem infoK : (Try.prog.info? 39).map (fun i => (i.zero, i.size, i.bytes)) = some (some (.agg zK), 2, 24) := by kernel_rfl
/-- A row of entries of one's own. -/
def RowK (w : World) (base : Nat) (v : Value) (D : List (ByteArray × Int)) : Prop := w.ownsRow base 39 2 v D.length (flatK D) ∧ D.length ≤ 1000
theorem RowK.nil (w : World) (base : Nat) : RowK w base (.slice none 0 0) [] := ⟨World.ownsRow_nil _ _ _ _, by decide⟩
theorem RowK.below {w w' : World} {base : Nat} {v : Value} {es : List (ByteArray × Int)} (h : RowK w base v es) (hb : Below w.heap.size w w') : RowK w' base v es := by
  obtain ⟨⟨h1, h2⟩, h3⟩ := h
  refine ⟨⟨h1, ?_⟩, h3⟩
  rcases h2 with h2 | ⟨g, cap, cur, e1, e2, e3, e4⟩
  · exact .inl h2
  · refine .inr ⟨g, cap, cur, e1, e2, ?_, e4⟩
    have hlt : g < w.heap.size := by
      apply Classical.byContradiction
      intro h
      rw [Array.getElem?_eq_none (by omega)] at e3
      cases e3
    rw [hb.block g hlt]
    exact e3
theorem RowK.mono {w : World} {base base' : Nat} {v : Value} {es : List (ByteArray × Int)} (h : RowK w base v es) (hb : base' ≤ base) : RowK w base' v es := by
  obtain ⟨⟨h1, h2⟩, h3⟩ := h
  refine ⟨⟨h1, ?_⟩, h3⟩
  rcases h2 with h2 | ⟨g, cap, cur, e1, e2, e3⟩
  · exact .inl h2
  · exact .inr ⟨g, cap, cur, e1, by omega, e3⟩
/-- How it reads: nil and empty, or cells of a block. -/
theorem RowK.form {w : World} {base : Nat} {v : Value} {es : List (ByteArray × Int)} (h : RowK w base v es) : (v = .slice none 0 0 ∧ es = []) ∨ ∃ g cap, v = .slice (some ⟨g, 0, none⟩) es.length cap ∧ base ≤ g ∧ g < w.heap.size ∧ es.length ≤ cap ∧ cap ≤ maxLen ∧ w.rangeAt g 0 (flatK es) := by
  obtain ⟨hr, hle⟩ := h
  obtain ⟨h1, h2⟩ := hr
  rcases h2 with ⟨e1, e2⟩ | ⟨g, cap, cur, e1, e2, e3, e4, e5, e6, e7⟩
  · exact .inl ⟨e1, List.eq_nil_of_length_eq_zero e2⟩
  · refine .inr ⟨g, cap, e1, e2, ?_, e4, e5, fun j u hu => ?_⟩
    · apply Classical.byContradiction
      intro h
      rw [Array.getElem?_eq_none (by omega)] at e3
      cases e3
    · rw [Nat.zero_add, cell_of_row w g j cur _ _ e3, ← Array.getElem?_toList]
      rw [← e7, List.getElem?_take] at hu
      split at hu
      · exact hu
      · cases hu
/-- The entry at a place. -/
theorem range_key {w : World} {g o : Nat} {es : List (ByteArray × Int)} (h : w.rangeAt g o (flatK es)) (k : Nat) (hk : k < es.length) : w.rangeAt g (o + k * 2) (keyL es[k]) := by
  intro j u hu
  have hj : j < 2 := by
    apply Classical.byContradiction
    intro h2
    rw [List.getElem?_eq_none (by show 2 ≤ j; omega)] at hu
    cases hu
  have := h (k * 2 + j) u (by rw [flatK_at es k hk j hj]; exact hu)
  rw [← Nat.add_assoc] at this
  exact this
theorem RowK.kept {w w' : World} {base : Nat} {v : Value} {es : List (ByteArray × Int)} {row : Option Nat} (h : RowK w base v es) (hg : w.grownBy w' row) (hne : v.ownBlock = none ∨ v.ownBlock ≠ row) : RowK w' base v es := ⟨h.1.kept hg hne, h.2⟩
theorem below_grownK {w0 w w' : World} {v : Value} {es : List (ByteArray × Int)} (hb : Below w0.heap.size w0 w) (hE : RowK w w0.heap.size v es) (hg : w.grownBy w' v.ownBlock) : Below w0.heap.size w0 w' :=
  hb.grown hg hb.size (fun k hk => (hE.1.lt k hk).1)
/-- Entries that lie somewhere are appended. -/
theorem append_keys {ops : Array Oper} {rest : List Oper} {op : Oper} {a : Act} {w : World} {Q : Exit → Act → World → Prop} {base : Nat} {v : Value} {es : List (ByteArray × Int)} (hE : Hid (RowK w base v es)) (s x : Operand) (hgd : op.guard = none) (ho : op.op = .call { callee := .builtin .append, args := #[s, x], argTypes := #[35, 35] })
    (hs : a.eval s = v) {G o m c : Nat} (ys : List (ByteArray × Int)) (hx : a.eval x = .slice (some ⟨G, o, none⟩) m c) (hm : Hid (m = ys.length)) (hr : Hid (w.rangeAt G o (flatK ys))) (hle : Hid (es.length + ys.length ≤ 1000)) (hbase : Hid (base ≤ w.heap.size))
    (h : ∀ v' w', Hid (RowK w' base v' (es ++ ys)) → Hid (w.grownBy w' v.ownBlock) → Hid (v'.ownBlock = v.ownBlock ∨ v'.ownBlock = some w.heap.size) → wpList Try.prog ops Q rest (a.put op.dst v') w') : wpList Try.prog ops Q (op :: rest) a w := by
  obtain ⟨i0, hi0, hz0, hz1, hz2⟩ := info_parts infoK
  have hml := hm.out
  have hll := hle.out
  refine wpList_append_own_at w hgd s x 35 ho base 39 i0 _ 2 24 Try.underlying35 hi0 hz0 hz1 hz2 rfl (by decide) v es.length (flatK es) hs hE.out.1 ⟨G, o, none⟩ m c (flatK ys) hx (by rw [flatK_len ys, hml]) (fun j u hu => ?_) (flatK_one ys) (by unfold maxLen; omega) (by omega) hbase.out (fun v' w' h1 h2 _ h4 => ?_)
  · have := hr.out j u hu
    have hadd : (⟨G, o, none⟩ : Addr).add j = ⟨G, o + j, none⟩ := by unfold Addr.add; split <;> simp_all
    rw [hadd]
    exact this
  · refine h v' w' (Lib.hid ⟨?_, ?_⟩) (Lib.hid h2) (Lib.hid h4)
    · rw [List.length_append, flatK_append, ← hml]; exact h1
    · rw [List.length_append]; exact hll
theorem append_noneK {ops : Array Oper} {rest : List Oper} {op : Oper} {a : Act} {w : World} {Q : Exit → Act → World → Prop} {base : Nat} {v : Value} {es : List (ByteArray × Int)} (hE : Hid (RowK w base v es)) (s x : Operand) (hgd : op.guard = none) (ho : op.op = .call { callee := .builtin .append, args := #[s, x], argTypes := #[35, 35] })
    (hs : a.eval s = v) (hx : a.eval x = .slice none 0 0) (h : wpList Try.prog ops Q rest (a.put op.dst v) w) : wpList Try.prog ops Q (op :: rest) a w := by
  obtain ⟨i0, hi0, _⟩ := info_parts infoK
  refine wpList_plain hgd fun K hK => ?_
  have hr := run_append_owned_none (P := Try.prog) w base 35 op.type 39 i0 2 Try.underlying35 hi0 v es.length (flatK es) hE.out.1
  unfold Oper.wp execOp
  simp only [ho, resolve, invoke, builtin, Sem.run_bind, Sem.run_pure, Result.andThen_ok, List.map_toArray, List.map_cons, List.map_nil, hs, hx, hr]
  exact hK _ _ h
theorem fillK (q : (ByteArray × Int)) : Instr.fill (fun i => some (i * 2, 2)) ((Array.range (1 * 2)).map fun j => zK[j % zK.size]!) [(0, keyV q)] = some (keyL q).toArray := by
  obtain ⟨s, t⟩ := q
  kernel_rfl
theorem run_buildK (q : (ByteArray × Int)) (w : World) : (Instr.buildSlice 35 1 #[(0, keyV q)]).run Try.prog w = .ok (.slice (some ⟨w.heap.size, 0, none⟩) 1 1) (w.alloc (.cells (keyL q).toArray 39)) := by
  obtain ⟨i0, hi0, hz0, hz1, hz2⟩ := info_parts infoK
  have hf := fillK q
  obtain ⟨Z, hZ⟩ : ∃ Z : Array Value, zK = Z := ⟨_, rfl⟩
  rw [hZ] at hf hz0
  have hsz : (sizeOf 39).run Try.prog w = .ok 2 w := by simp [sizeOf, typeInfo, hi0, hz1]
  have hzv : (zeroValue 39).run Try.prog w = .ok (.agg Z) w := by simp [zeroValue, typeInfo, hi0, hz0]
  have hnr : ∀ cs : Array Value, (newRow 39 cs).run Try.prog w = .ok ⟨w.heap.size, 0, none⟩ (w.alloc (.cells cs 39)) := fun cs => by simp [newRow]
  have hu : (underlying 35).run Try.prog w = .ok _ w := run_underlying Try.underlying35 w
  have hfc : Instr.fill (fun i => some (i * 2, 2)) ((Array.range (1 * 2)).map fun j => (Value.agg Z).cells[j % (Value.agg Z).cells.size]!) (#[(0, keyV q)] : Array (Nat × Value)).toList = some (keyL q).toArray := hf
  unfold Instr.buildSlice
  simp only [Sem.run_bind, hu, Result.andThen_ok, hsz, if_neg (show ¬ (1 * 2 > 2 ^ 24) by decide), Sem.run_pure, if_neg (show ¬ (1 * 2 = 0) by decide), hzv, hfc, hnr]
theorem build_keyS {ops : Array Oper} {rest : List Oper} {op : Oper} {a : Act} {w : World} {Q : Exit → Act → World → Prop} {q : (ByteArray × Int)} (hg : op.guard = none) (x : Operand) (ho : op.op = .buildSlice 35 1 #[(0, x)])
    (hx : a.eval x = keyV q) (h : ∀ W, Hid (W = w.alloc (.cells (keyL q).toArray 39)) → wpList Try.prog ops Q rest (a.put op.dst (.slice (some ⟨w.heap.size, 0, none⟩) 1 1)) W) : wpList Try.prog ops Q (op :: rest) a w := by
  refine wpList_plain hg fun K hK => ?_
  unfold Oper.wp execOp
  simp only [ho, List.map_toArray, List.map_cons, List.map_nil, hx, Sem.run_bind, run_buildK q w, Result.andThen_ok]
  exact hK _ _ (h _ (Lib.hid rfl))
end Go.Proofs.Ytjmmedpkcedngaa
/- What a thing of one's own may turn: the blocks of its footprint, and new ones. -/
namespace Go.Proofs.Ytjmmedpkcedngaa
open Go.RowKit
set_option linter.unusedVariables false
set_option maxRecDepth 20000

/-- Nothing but the blocks of F has turned; F' holds such as were in F, and new ones. -/
structure Foot (F F' : List Nat) (w w' : World) : Prop where
  os : w'.os = w.os
  tape : w'.tape = w.tape
  output : w'.output = w.output
  size : w.heap.size ≤ w'.heap.size
  keep : ∀ k, k < w.heap.size → k ∉ F → w'.heap[k]? = w.heap[k]?
  new : ∀ k ∈ F', k ∈ F ∨ w.heap.size ≤ k
theorem Foot.ofBelow (F : List Nat) {w w' : World} (h : Below w.heap.size w w') : Foot F F w w' := ⟨h.os, h.tape, h.output, h.size, fun k hk _ => h.block k hk, fun k hk => .inl hk⟩
theorem Foot.trans {F F' F'' : List Nat} {a b c : World} (h : Foot F F' a b) (k : Foot F' F'' b c) : Foot F F'' a c :=
  ⟨k.os.trans h.os, k.tape.trans h.tape, k.output.trans h.output, Nat.le_trans h.size k.size, fun i hi hn => (k.keep i (Nat.lt_of_lt_of_le hi h.size) (fun e => by
    rcases h.new i e with e | e
    · exact hn e
    · omega)).trans (h.keep i hi hn), fun i hi => by
    rcases k.new i hi with e | e
    · exact h.new i e
    · exact .inr (Nat.le_trans h.size e)⟩
theorem Foot.below {F F' : List Nat} {w w' : World} {B : Nat} (h : Foot F F' w w') (hF : ∀ k ∈ F, B ≤ k) (hB : B ≤ w.heap.size) : Below B w w' :=
  ⟨h.os, h.tape, h.output, h.size, fun k hk => h.keep k (by omega) (fun e => by have := hF k e; omega)⟩
theorem Foot.out {F F' : List Nat} {w w' : World} (h : Foot F F' w w') {k : Nat} (hk : k < w.heap.size) (hn : k ∉ F) : k ∉ F' := fun e => by
  rcases h.new k e with e | e
  · exact hn e
  · omega
theorem range_foot {F F' : List Nat} {w w' : World} (h : Foot F F' w w') {G o : Nat} {cs : List Value} (hr : w.rangeAt G o cs) (hk : G < w.heap.size) (hn : G ∉ F) : w'.rangeAt G o cs := fun j u hu => by
  rw [World.cell?_of_block (w := w) (a := ⟨G, o + j, none⟩) (h.keep G hk hn)]; exact hr j u hu
/-- A row's block is none of the footprint's. -/
def NotIn (v : Value) (F : List Nat) : Prop := ∀ g, v.ownBlock = some g → g ∉ F
theorem Foot.wider {F F' K : List Nat} {w w' : World} (h : Foot F F' w w') (hk : ∀ k ∈ F, k ∈ K) : Foot K (F' ++ K) w w' :=
  ⟨h.os, h.tape, h.output, h.size, fun k hk2 hn => h.keep k hk2 (fun e => hn (hk k e)), fun k hk2 => by
    rcases List.mem_append.1 hk2 with e | e
    · rcases h.new k e with e | e
      · exact .inl (hk k e)
      · exact .inr e
    · exact .inl e⟩
/-- An append's footprint: the row's own block. -/
theorem Foot.ofGrown {w w' : World} {v v' : Value} (h : w.grownBy w' v.ownBlock) (hv : v'.ownBlock = v.ownBlock ∨ ∀ g, v'.ownBlock = some g → w.heap.size ≤ g) : Foot v.ownBlock.toList v'.ownBlock.toList w w' :=
  ⟨h.os, h.tape, h.output, h.size, fun k hk hn => h.block k hk (fun e => hn (by rw [← e]; simp)), fun k hk => by
    have hk2 : v'.ownBlock = some k := by simpa using hk
    rcases hv with e | e
    · exact .inl (by rw [← e, hk2]; simp)
    · exact .inr (e k hk2)⟩
end Go.Proofs.Ytjmmedpkcedngaa
/- A range over a function, walked with the plain laws: regions of a round; a range whose rounds all go on; one whose first round returns. -/
namespace Go.Proofs.Ytjmmedpkcedngaa
open Go.RowKit
set_option linter.unusedVariables false
set_option maxRecDepth 20000

section
variable {P : Program} {ops : Array Oper} {Q : Exit → Act → World → Prop} {n r : Nat}
theorem rows_in {row : String} {args : Array Value} {w : World} {R : Value → World → Prop} (h : Rows P row args w R) : RowsIn (Fence.wide.inRound r) n P row args w R := fun c cs _ => by
  obtain ⟨v, w', hr, hs⟩ := h c cs
  exact ⟨v, w', hr, stepsIn_wide.2 hs⟩
theorem depth_no : (Fence.wide.inRound r).depth.isSome = true → 1 ≤ n := fun h => by cases h
/-- An operation of a round. -/
theorem op_in {o : Oper} {a : Act} {w : World} {K : Act → World → Prop} (hd : ∀ c, o.op ≠ .defer c) (hq : ¬ LetsOut Q) (h : o.wp P a w K Q ∨ (o.asks P a w ∧ LetsOut Q)) : o.wpIn (Fence.wide.inRound r) n P a w K Q := by
  rcases h with h | ⟨_, h⟩
  · refine ⟨fun _ _ => trivial, ?_⟩
    rw [show o.semAt (Fence.wide.inRound r).round a.eval = execOp a.eval o from Oper.semAt_some r _ _ hd]
    unfold Oper.wp at h
    generalize (execOp a.eval o).run P w = x at *
    cases x with
    | ok y w' =>
      cases y <;> simp only [Oper.upon, Oper.uponIn] at h ⊢ <;> first
        | exact h
        | exact ⟨depth_no, CallsIn.inRound r (callsIn_wide.2 h)⟩
        | exact ⟨depth_no, rows_in h⟩
        | exact h.elim
    | halt y w' => cases y <;> simp only [Oper.upon, Oper.uponIn] at h ⊢ <;> first | exact h | exact h.elim
  · exact absurd h hq
theorem list_in (hq : ¬ LetsOut Q) : ∀ (l : List Oper) (a : Act) (w : World), (∀ o ∈ l, ∀ c, o.op ≠ .defer c) → wpList P ops Q l a w → wpListIn (Fence.wide.inRound r) n P ops Q l a w
  | [], _, _, _, h => h
  | o :: l, a, w, hd, h => by
    unfold wpListIn
    unfold wpList at h
    split
    · rename_i hw
      rw [if_pos hw] at h
      exact Oper.wpIn_mono (fun a w h => list_in hq l a w (fun o ho => hd o (List.mem_cons_of_mem _ ho)) h) (op_in (hd o (by simp)) hq h)
    · rename_i hw
      rw [if_neg hw] at h
      exact ⟨fun _ _ => trivial, list_in hq l _ w (fun o ho => hd o (List.mem_cons_of_mem _ ho)) h⟩
theorem any_in {md : Region.Mode} (hq : ¬ LetsOut Q) (hd : ∀ (i : Nat) (o : Oper), ops[i]? = some o → ∀ c, o.op ≠ .defer c) : ∀ (fuel : Nat) (listed : Array Bool) (a : Act) (w : World), wpAny P md ops Q fuel listed a w → wpAnyIn (Fence.wide.inRound r) n P md ops Q fuel listed a w
  | 0, _, _, _, h => h
  | fuel + 1, listed, a, w, h => by
    refine ⟨h.1, fun i hi => ?_⟩
    have h2 := h.2 i hi
    unfold wpOp at h2
    unfold wpOpIn
    cases ho : ops[i]? with
    | none => rw [ho] at h2; exact any_in hq hd fuel _ a w h2
    | some o =>
      rw [ho] at h2
      simp only at h2 ⊢
      split
      · rename_i hw
        rw [if_pos hw] at h2
        exact Oper.wpIn_mono (fun a w h => any_in hq hd fuel _ a w h) (op_in (hd i o ho) hq h2)
      · rename_i hw
        rw [if_neg hw] at h2
        exact ⟨fun _ _ => trivial, any_in hq hd fuel _ _ w h2⟩
/-- Operations none of which defers. -/
def noDefer (l : List Oper) : Bool := l.all fun o => match o.op with
  | .defer _ => false
  | _ => true
theorem noDefer_spec {l : List Oper} (h : noDefer l = true) : ∀ o ∈ l, ∀ c, o.op ≠ .defer c := fun o ho c e => by
  have := List.all_eq_true.1 h o ho
  rw [e] at this
  cases this
/-- A plain region of a round. -/
theorem round_region {id : Nat} {l : List Oper} {a : Act} {w : World} (hd : noDefer l = true) (hq : ¬ LetsOut Q) (h : wpList P l.toArray Q l a w) : (Code.region id l.toArray false).wpIn (Fence.wide.inRound r) n P Q a w :=
  wpIn_region_lit (list_in hq l a w (noDefer_spec hd) h)
/-- A region of a round that draws its order. -/
theorem round_drawn {id : Nat} {l : List Oper} {a : Act} {w : World} {S : World → Prop} (hm : P.follows .mixedOrders = true) (hd : noDefer l = true) (hq : ¬ LetsOut Q) (hS : S w.drew)
    (h : S w.drew → wpAnyH P .any l.toArray Q S l.toArray.size (Array.replicate l.toArray.size false) a w.drew) : (Code.region id l.toArray true).wpIn (Fence.wide.inRound r) n P Q a w := by
  refine wpIn_region_draw fun t => ?_
  have h1 := any_in (r := r) (n := n) hq (fun i o ho => noDefer_spec hd o (by
    have := Array.mem_of_getElem? ho
    simpa using this)) _ _ _ _ (wpAny_of_held _ _ _ _ (h hS))
  have h2 := wpAnyIn_sound _ t _ _ _ h1
  unfold Region.schedule
  rw [hm]
  exact h2
end
end Go.Proofs.Ytjmmedpkcedngaa
/- A range over a function: the law where each round goes on, and the law where the first round returns. -/
namespace Go.Proofs.Ytjmmedpkcedngaa
open Go.RowKit
set_option linter.unusedVariables false
set_option maxRecDepth 20000

section
variable {P : Program} {α : Type}
theorem foot_put (W : World) (l : Nat) (o : Obj) : Foot [l] [l] W (W.putObj l o) :=
  ⟨rfl, rfl, rfl, by simp, fun k _ hn => World.putObj_heap_other (fun e => hn (by simp [e])), fun k hk => .inl hk⟩
theorem below_put {W : World} {l n : Nat} (o : Obj) (h : n ≤ l) : Below n W (W.putObj l o) :=
  ⟨rfl, rfl, rfl, by simp, fun k hk => World.putObj_heap_other (by omega)⟩
/-- A call of yield, as an operation of a plain function's walk. -/
theorem yield_step {ops : Array Oper} {rest : List Oper} {o : Oper} {a : Act} {w : World} {Q : Exit → Act → World → Prop} {l : Nat} {v : Value} {ts : Array TypeId} {R : Ending → World → Prop} (hY : YieldAt Fence.wide 0 P l #[v] w R)
    (hw : Region.wanted o (yielded ops a.tmps) = true) (x y : Operand) (ho : o.op = .call { callee := .value x, args := #[y], argTypes := ts })
    (hx : a.eval x = .func (.yield l) #[] #[]) (hy : a.eval y = v) (h : ∀ e w', R e w' → ∃ u, e = .returned u ∧ wpListIn Fence.wide 0 P ops Q rest (a.put o.dst u) w') : wpListIn Fence.wide 0 P ops Q (o :: rest) a w := by
  obtain ⟨fn, tmps, assign, body, hr, hR⟩ := hY
  unfold wpListIn
  rw [if_pos hw]
  refine ⟨fun _ _ => trivial, ?_⟩
  have e : (o.semAt Fence.wide.round a.eval).run P w = .ok (.round l fn tmps assign body) w := by
    show (execOp a.eval o).run P w = _
    unfold execOp
    simp only [ho, resolve, List.map_toArray, List.map_cons, List.map_nil, hx, hy, Sem.run_bind]
    simp [Deferred.ofValue, invoke, hr]
  rw [e, Oper.uponIn_round]
  refine ⟨(fun h => by cases h), hR.mono fun e w' he => ?_⟩
  obtain ⟨u, rfl, hu⟩ := h e w' he
  exact hu
/-- An operation of a plain function's walk, by its plain law. -/
theorem wide_step {ops : Array Oper} {rest : List Oper} {o : Oper} {a : Act} {w : World} {Q : Exit → Act → World → Prop} {v : Value} (hw : Region.wanted o (yielded ops a.tmps) = true) (hr : (execOp a.eval o).run P w = .ok (.value v) w)
    (h : wpListIn Fence.wide 0 P ops Q rest (a.put o.dst v) w) : wpListIn Fence.wide 0 P ops Q (o :: rest) a w := by
  unfold wpListIn
  rw [if_pos hw]
  refine ⟨fun _ _ => trivial, ?_⟩
  rw [show (o.semAt Fence.wide.round a.eval).run P w = .ok (.value v) w from hr, Oper.uponIn_value]
  exact h
/-- What an iterator tells, one by one, where each round goes on and turns but the blocks M. -/
def Tells (P : Program) (gf : Nat) (lb : Array Value) (xs : List α) (enc : α → Value) (M : List Nat) (w : World) : Prop :=
  ∀ (l : Nat) (J : Nat → World → Prop) (W : World), Below w.heap.size w W → (∀ k A B, J k A → Below A.heap.size A B → J k B) →
    (∀ k (hk : k < xs.length) W1, J k W1 → YieldAt Fence.wide 0 P l #[enc xs[k]] W1 fun e W' => e = .returned (.bool true) ∧ J (k + 1) W' ∧ Foot M M W1 W') → J 0 W →
    CallsIn Fence.wide 0 P gf (#[.func (.yield l) #[] #[]] ++ lb) W fun e W' => (∃ v, e = .returned v) ∧ J xs.length W'
/-- The record of a loop. -/
def recOf (fn : FuncId) (a : Act) (ps : Array Tmp) (assign body : Code) (D : Nat) (st : LoopState) (pe : Option Code) : Loop := { state := st, pending := pe, fn, tmps := a.tmps, params := ps, assign, body, defers := D }
theorem zip_one (p : Tmp) (v : Value) (t : Array Value) : (#[p].zip #[v]).foldl (fun tmps (t, a) => tmps.setIfInBounds t a) t = t.setIfInBounds p v := by simp
theorem enter_law {g : Operand} {ps : Array Tmp} {assign body : Code} {Q : Exit → Act → World → Prop} {a : Act} {w : World} {gf : Nat} {lb : Array Value} (hg : a.eval g = .func (.func gf) #[] lb) (eg : ∀ args w, (callFunc gf args).run P w = .ok (.enter gf args) w)
    (h : ∀ fn W1, Below w.heap.size w W1 → W1.heap[w.heap.size + 1]? = some (.loop (recOf fn a ps assign body w.heap.size .ready none)) → W1.heap[w.heap.size]? = some (.deferred (some [])) →
      CallsIn Fence.wide 0 P gf (#[.func (.yield (w.heap.size + 1)) #[] #[]] ++ lb) W1 (rangePost Fence.wide 0 P (w.heap.size + 1) Q { a with defers := [{ target := .collected w.heap.size, args := #[] }] ++ a.defers })) :
    (Code.rangeFunc g ps assign body).wp P Q a w := by
  refine (wpIn_wide (n := 0)).1 (wpIn_rangeFunc fun fn _ => ?_)
  obtain ⟨W1, hW1⟩ : ∃ W1, (w.alloc (.deferred (some []))).alloc (.loop (recOf fn a ps assign body w.heap.size .ready none)) = W1 := ⟨_, rfl⟩
  have hL1 : W1.heap[w.heap.size + 1]? = some (.loop (recOf fn a ps assign body w.heap.size .ready none)) := by
    rw [← hW1]; have := World.alloc_heap_new (w.alloc (.deferred (some []))) (.loop (recOf fn a ps assign body w.heap.size .ready none)); rwa [World.size_alloc] at this
  have hK1 : W1.heap[w.heap.size]? = some (.deferred (some [])) := by
    rw [← hW1]; exact (Below.heap_alloc _ _ _ (by simp)).trans (World.alloc_heap_new w _)
  have hb1 : Below w.heap.size w W1 := by
    rw [← hW1]; exact ((Below.refl _ w).alloc (Nat.le_refl _) _).alloc (by simp) _
  have e1 : (Instr.enterLoop fn a.tmps ps assign body none).run P w = .ok (w.heap.size + 1, [{ target := .collected w.heap.size, args := #[] }]) W1 := by
    rw [← hW1]; exact run_enterLoop_outer _ _ _ _ _
  have e2 : (resolve a.eval (rangeCall g (w.heap.size + 1)) 0).run P W1 = .ok { target := .fn (.func gf) lb, args := #[.func (.yield (w.heap.size + 1)) #[] #[]] } W1 := by
    simp only [resolve, hg]
    simp [go_sem]
  have e3 : (invoke (.fn (.func gf) lb) #[.func (.yield (w.heap.size + 1)) #[] #[]]).run P W1 = .ok (.enter gf (#[.func (.yield (w.heap.size + 1)) #[] #[]] ++ lb)) W1 := by
    simp only [invoke]
    exact eg _ _
  have e4 := h fn W1 hb1 hL1 hK1
  clear hL1 hK1 hb1 hW1 h eg hg
  exact ⟨_, _, W1, _, W1, gf, _, W1, e1, e2, fun _ _ => trivial, e3, (fun h => by cases h), e4⟩
/-- The law where each round goes on. -/
theorem range_each {g : Operand} {p : Tmp} {assign body : Code} {Q : Exit → Act → World → Prop} {a : Act} {w : World} {gf : Nat} {lb : Array Value} (hg : a.eval g = .func (.func gf) #[] lb) (eg : ∀ args w, (callFunc gf args).run P w = .ok (.enter gf args) w)
    (xs : List α) (enc : α → Value) (M : List Nat) (hM : ∀ k ∈ M, k < w.heap.size) (w0 : World) (hseq : Tells P gf lb xs enc M w0) (hb0 : Below w0.heap.size w0 w)
    (I : Nat → World → Prop) (hI : ∀ k A B, I k A → Below w.heap.size A B → I k B) (h0 : I 0 w)
    (hround : ∀ l k (hk : k < xs.length) W, w.heap.size < l → l < W.heap.size → I k W →
      assign.wpIn (Fence.wide.inRound l) 0 P (Exit.then (fun a₁ w₁ => Below W.heap.size W w₁ ∧ ∀ w₂, Foot [l] [l] w₁ w₂ → body.wpIn (Fence.wide.inRound l) 0 P (fun e _ W3 => e = .normal ∧ Foot M M w₂ W3 ∧ I (k + 1) W3) a₁ w₂) (fun _ _ _ => False))
        { tmps := a.tmps.setIfInBounds p (enc xs[k]), defers := [] } W)
    (hdone : ∀ W, I xs.length W → W.heap[w.heap.size]? = some (.deferred (some [])) → Q .normal { a with defers := [{ target := .collected w.heap.size, args := #[] }] ++ a.defers } W) :
    (Code.rangeFunc g #[p] assign body).wp P Q a w := by
  refine enter_law hg eg fun fn W1 hb1 hL1 hK1 => ?_
  obtain ⟨l, hl⟩ : ∃ l, w.heap.size + 1 = l := ⟨_, rfl⟩
  rw [hl] at hL1 ⊢
  obtain ⟨rec, hrec⟩ : ∃ rec, recOf fn a #[p] assign body w.heap.size = rec := ⟨_, rfl⟩
  rw [hrec] at hL1
  refine (hseq l (fun k W => I k W ∧ W.heap[l]? = some (.loop (rec .ready none)) ∧ W.heap[w.heap.size]? = some (.deferred (some []))) W1 (hb0.trans (hb1.mono hb0.size)) ?_ ?_ ⟨hI 0 _ _ h0 hb1, hL1, hK1⟩).mono ?_
  · rintro k A B ⟨h1, h2, h3⟩ hb
    have hlA : l < A.heap.size := (Array.getElem?_eq_some_iff.1 h2).1
    exact ⟨hI k A B h1 (hb.mono (by omega)), (hb.block l hlA).trans h2, (hb.block w.heap.size (by omega)).trans h3⟩
  · rintro k hk W ⟨h1, h2, h3⟩
    have hlW : l < W.heap.size := (Array.getElem?_eq_some_iff.1 h2).1
    have hy := run_yield (P := P) (args := #[enc xs[k]]) h2 (by rw [← hrec]; simp [recOf])
    refine ⟨_, _, _, _, hy, roundIn_of_wpIn trivial ?_⟩
    rw [← hrec]
    show assign.wpIn _ _ _ _ { tmps := (#[p].zip #[_]).foldl _ a.tmps, defers := [] } W
    rw [zip_one]
    refine wpIn_mono (hround l k hk W (by omega) hlW h1) ?_
    rintro e a₁ w₁ he
    cases e with
    | normal =>
      obtain ⟨hb, hbody⟩ := he
      have hl1 : w₁.heap[l]? = some (.loop (rec .ready none)) := (hb.block l hlW).trans h2
      have hk1 : w₁.heap[w.heap.size]? = some (.deferred (some [])) := (hb.block _ (by omega)).trans h3
      have hll : l < w₁.heap.size := (Array.getElem?_eq_some_iff.1 hl1).1
      refine ⟨_, run_beginRound hl1 (by rw [← hrec]; rfl), ?_⟩
      refine wpIn_mono (hbody _ (foot_put w₁ l _)) ?_
      rintro e a₂ W3 ⟨rfl, hf, hi3⟩
      have hlM : l ∉ M := fun e => by have := hM l e; omega
      have hDM : w.heap.size ∉ M := fun e => by have := hM _ e; omega
      have hl3 := (hf.keep l (by simpa using hll) hlM).trans (World.putObj_heap_same hll)
      have hr3 := run_endRound (P := P) (none : Option Code) hl3
      refine ⟨_, _, hr3, rfl, ⟨hI _ _ _ hi3 (below_put _ (by omega)), ?_, ?_⟩, ?_⟩
      · rw [World.putObj_heap_same (Array.getElem?_eq_some_iff.1 hl3).1, ← hrec]; rfl
      · rw [World.putObj_heap_other (by omega), hf.keep _ (by simp; omega) hDM, World.putObj_heap_other (by omega)]; exact hk1
      · refine ⟨?_, ?_, ?_, ?_, fun j hj hn => ?_, fun j hj => .inl hj⟩
        · exact hf.os.trans hb.os
        · exact hf.tape.trans hb.tape
        · exact hf.output.trans hb.output
        · have := hf.size; have := hb.size; simp at *; omega
        · by_cases e : j = l
          · subst e
            rw [World.putObj_heap_same (Array.getElem?_eq_some_iff.1 hl3).1, h2, ← hrec]; rfl
          · rw [World.putObj_heap_other e, hf.keep j (by have := hb.size; simp; omega) hn, World.putObj_heap_other e]
            exact hb.block j hj
    | exit id => exact he.elim
    | goto t => exact he.elim
    | ret => exact he.elim
    | panic c => exact he.elim
    | outgrown => exact he.elim
  · rintro e W2 ⟨⟨v, rfl⟩, hi, h2, h3⟩
    refine ⟨none, _, by have := run_endLoop (P := P) h2 (by rw [← hrec]; simp [recOf]); rw [← hrec] at this; exact this, hdone _ (hI _ _ _ hi (below_put _ (by omega))) ((World.putObj_heap_other (by omega)).trans h3)⟩
/-- What an iterator tells whose first round says 'no more'; it turns the block G alone. -/
def TellsOne (P : Program) (gf : Nat) (lb : Array Value) (best : Option α) (enc : α → Value) (G : Nat) (Inv : World → Prop) (w : World) : Prop :=
  ∀ (l : Nat) (Jx : World → Prop) (W : World), Below w.heap.size w W →
    (∀ x W1, best = some x → Inv W1 → Foot [G] [G] W W1 → YieldAt Fence.wide 0 P l #[enc x] W1 fun e W' => e = .returned (.bool false) ∧ Jx W') →
    CallsIn Fence.wide 0 P gf (#[.func (.yield l) #[] #[]] ++ lb) W fun e W' => (∃ v, e = .returned v) ∧ ((best = none ∧ Inv W' ∧ Foot [G] [G] W W') ∨ (∃ x, best = some x ∧ Jx W'))
/-- The law where the first round returns. -/
theorem range_one {g : Operand} {p : Tmp} {assign body : Code} {Q : Exit → Act → World → Prop} {a : Act} {w : World} {gf : Nat} {lb : Array Value} (hg : a.eval g = .func (.func gf) #[] lb) (eg : ∀ args w, (callFunc gf args).run P w = .ok (.enter gf args) w)
    (best : Option α) (enc : α → Value) (G : Nat) (hG : G < w.heap.size) (Inv : World → Prop) (w0 : World) (hseq : TellsOne P gf lb best enc G Inv w0) (hb0 : Below w0.heap.size w0 w)
    (M : List Nat) (hM : ∀ k ∈ M, k < w.heap.size) (J : World → Prop) (hJ : ∀ A B, J A → Below w.heap.size A B → J B) (hInv : ∀ A B, Inv A → Below w.heap.size A B → Inv B)
    (hround : ∀ l x W, best = some x → w.heap.size < l → l < W.heap.size → Inv W → (∀ j, j < w.heap.size → j ≠ G → W.heap[j]? = w.heap[j]?) → W.os = w.os → W.tape = w.tape → W.output = w.output →
      assign.wpIn (Fence.wide.inRound l) 0 P (Exit.then (fun a₁ w₁ => Below W.heap.size W w₁ ∧ ∀ w₂, Foot [l] [l] w₁ w₂ → body.wpIn (Fence.wide.inRound l) 0 P (fun e _ W3 => e = .ret ∧ Foot M M w₂ W3 ∧ J W3) a₁ w₂) (fun _ _ _ => False))
        { tmps := a.tmps.setIfInBounds p (enc x), defers := [] } W)
    (hdone : ∀ W, best = none → Inv W → (∀ j, j < w.heap.size → j ≠ G → W.heap[j]? = w.heap[j]?) → w.heap.size ≤ W.heap.size → W.os = w.os → W.tape = w.tape → W.output = w.output → W.heap[w.heap.size]? = some (.deferred (some [])) → Q .normal { a with defers := [{ target := .collected w.heap.size, args := #[] }] ++ a.defers } W)
    (hstop : ∀ x W, best = some x → J W → W.heap[w.heap.size]? = some (.deferred (some [])) → Q .ret { a with defers := [{ target := .collected w.heap.size, args := #[] }] ++ a.defers } W) :
    (Code.rangeFunc g #[p] assign body).wp P Q a w := by
  refine enter_law hg eg fun fn W1 hb1 hL1 hK1 => ?_
  obtain ⟨l, hl⟩ : ∃ l, w.heap.size + 1 = l := ⟨_, rfl⟩
  rw [hl] at hL1 ⊢
  obtain ⟨rec, hrec⟩ : ∃ rec, recOf fn a #[p] assign body w.heap.size = rec := ⟨_, rfl⟩
  rw [hrec] at hL1
  have hlW1 : l < W1.heap.size := (Array.getElem?_eq_some_iff.1 hL1).1
  refine (hseq l (fun W => J W ∧ W.heap[l]? = some (.loop (rec .done (some .ret))) ∧ W.heap[w.heap.size]? = some (.deferred (some []))) W1 (hb0.trans (hb1.mono hb0.size)) ?_).mono ?_
  · rintro x W hx hinv hfW
    have h2 := (hfW.keep l hlW1 (by simp; omega)).trans hL1
    have h3 := (hfW.keep _ (by omega) (by simp; omega)).trans hK1
    have hlW : l < W.heap.size := (Array.getElem?_eq_some_iff.1 h2).1
    have hy := run_yield (P := P) (args := #[enc x]) h2 (by rw [← hrec]; simp [recOf])
    refine ⟨_, _, _, _, hy, roundIn_of_wpIn trivial ?_⟩
    rw [← hrec]
    show assign.wpIn _ _ _ _ { tmps := (#[p].zip #[_]).foldl _ a.tmps, defers := [] } W
    rw [zip_one]
    refine wpIn_mono (hround l x W hx (by omega) hlW hinv (fun j hj hn => (hfW.keep j (by omega) (by simpa using hn)).trans (hb1.block j hj)) (hfW.os.trans hb1.os) (hfW.tape.trans hb1.tape) (hfW.output.trans hb1.output)) ?_
    rintro e a₁ w₁ he
    cases e with
    | normal =>
      obtain ⟨hb, hbody⟩ := he
      have hl1 : w₁.heap[l]? = some (.loop (rec .ready none)) := (hb.block l hlW).trans h2
      have hk1 : w₁.heap[w.heap.size]? = some (.deferred (some [])) := (hb.block _ (by omega)).trans h3
      have hll : l < w₁.heap.size := (Array.getElem?_eq_some_iff.1 hl1).1
      refine ⟨_, run_beginRound hl1 (by rw [← hrec]; rfl), ?_⟩
      refine wpIn_mono (hbody _ (foot_put w₁ l _)) ?_
      rintro e a₂ W3 ⟨rfl, hf, hi3⟩
      have hlM : l ∉ M := fun e => by have := hM l e; omega
      have hDM : w.heap.size ∉ M := fun e => by have := hM _ e; omega
      have hl3 := (hf.keep l (by simpa using hll) hlM).trans (World.putObj_heap_same hll)
      have hr3 := run_endRound (P := P) (some Code.ret) hl3
      refine ⟨_, _, hr3, rfl, hJ _ _ hi3 (below_put _ (by omega)), ?_, ?_⟩
      · rw [World.putObj_heap_same (Array.getElem?_eq_some_iff.1 hl3).1, ← hrec]; rfl
      · rw [World.putObj_heap_other (by omega), hf.keep _ (by simp; omega) hDM, World.putObj_heap_other (by omega)]; exact hk1
    | exit id => exact he.elim
    | goto t => exact he.elim
    | ret => exact he.elim
    | panic c => exact he.elim
    | outgrown => exact he.elim
  · rintro e W2 ⟨⟨v, rfl⟩, ⟨hb, hinv, hf⟩ | ⟨x, hx, hj, h2, h3⟩⟩
    · have h2 := (hf.keep l hlW1 (by simp; omega)).trans hL1
      have h3 := (hf.keep _ (by omega) (by simp; omega)).trans hK1
      have hsz := hf.size
      refine ⟨none, _, by have := run_endLoop (P := P) h2 (by rw [← hrec]; simp [recOf]); rw [← hrec] at this; exact this, hdone _ hb (hInv _ _ hinv (below_put _ (by omega))) (fun j hj hn => ?_) (by simp; omega) (hf.os.trans hb1.os) (hf.tape.trans hb1.tape) (hf.output.trans hb1.output) ((World.putObj_heap_other (by omega)).trans h3)⟩
      rw [World.putObj_heap_other (by omega)]
      exact (hf.keep j (by omega) (by simpa using hn)).trans (hb1.block j hj)
    · exact ⟨some .ret, _, by have := run_endLoop (P := P) h2 (by rw [← hrec]; simp [recOf]); rw [← hrec] at this; exact this, wpIn_ret (hstop x _ hx (hJ _ _ hj (below_put _ (by omega))) ((World.putObj_heap_other (by omega)).trans h3))⟩
end
end Go.Proofs.Ytjmmedpkcedngaa
/- A range over a function that tells what it tells in whatever order: the list of what has come is what is carried. -/
namespace Go.Proofs.Ytjmmedpkcedngaa
open Go.RowKit
set_option linter.unusedVariables false
set_option maxRecDepth 20000

/-- What is kept through turns of new blocks that are no cells. -/
def OwnFrom {β : Type} (B : Nat) (I : β → World → Prop) : Prop :=
  ∀ s W W' row, I s W → W.grownBy W' row → (∀ r, row = some r → B ≤ r ∧ ∃ o : Obj, W.heap[r]? = some o ∧ o.isCells = false) → I s W'
theorem OwnFrom.putObj {β : Type} {B : Nat} {I : β → World → Prop} (h : OwnFrom B I) {s : β} {W : World} {l : Nat} {o : Obj} (o' : Obj) (hs : I s W) (hB : B ≤ l) (hl : W.heap[l]? = some o) (ho : o.isCells = false) : I s (W.putObj l o') :=
  h s W _ (some l) hs (grownBy_putObj' W l o') (fun r e => by cases e; exact ⟨hB, o, hl, ho⟩)
section
variable {P : Program} {α : Type}
/-- The law: each round goes on; the invariant speaks of cells alone. -/
theorem range_list {g : Operand} {p : Tmp} {assign body : Code} {Q : Exit → Act → World → Prop} {a : Act} {w : World} {gf : Nat} {lb : Array Value} (hg : a.eval g = .func (.func gf) #[] lb) (eg : ∀ args w, (callFunc gf args).run P w = .ok (.enter gf args) w)
    (enc : α → Value) (S : List α → Prop) (N : Nat) (w0 : World) (hseq : SeqGives Fence.wide 0 P gf lb enc S N w0) (hb0 : Below w0.heap.size w0 w)
    (I : List α → World → Prop) (hI : OwnFrom w.heap.size I) (h0 : I [] w)
    (hround : ∀ l pre x W, w.heap.size ≤ l → pre.length < N → I pre W → (∃ o : Obj, W.heap[l]? = some o ∧ o.isCells = false) →
      assign.wpIn (Fence.wide.inRound l) 0 P (Exit.then (fun a₁ w₁ => KeepsOthers W w₁ ∧ I pre w₁ ∧ ∀ w₂, w₁.grownBy w₂ (some l) → (∃ o : Obj, w₁.heap[l]? = some o ∧ o.isCells = false) → I pre w₂ → body.wpIn (Fence.wide.inRound l) 0 P (fun e _ W3 => e = .normal ∧ KeepsOthers w₂ W3 ∧ I (pre ++ [x]) W3) a₁ w₂) (fun _ _ _ => False))
        { tmps := a.tmps.setIfInBounds p (enc x), defers := [] } W)
    (hdone : ∀ xs W, S xs → I xs W → W.heap[w.heap.size]? = some (.deferred (some [])) → Q .normal { a with defers := [{ target := .collected w.heap.size, args := #[] }] ++ a.defers } W) :
    (Code.rangeFunc g #[p] assign body).wp P Q a w := by
  refine enter_law hg eg fun fn W1 hb1 hL1 hK1 => ?_
  obtain ⟨l, hl⟩ : ∃ l, w.heap.size + 1 = l := ⟨_, rfl⟩
  rw [hl] at hL1 ⊢
  obtain ⟨rec, hrec⟩ : ∃ rec, recOf fn a #[p] assign body w.heap.size = rec := ⟨_, rfl⟩
  rw [hrec] at hL1
  have hI1 : I [] W1 := hI [] w W1 none h0 ⟨hb1.os, hb1.tape, hb1.output, hb1.size, fun k hk _ => hb1.block k hk⟩ (fun r e => by cases e)
  refine (hseq l (fun pre W => I pre W ∧ W.heap[l]? = some (.loop (rec .ready none)) ∧ W.heap[w.heap.size]? = some (.deferred (some []))) W1 (hb0.trans (hb1.mono hb0.size)) ?_ ?_ ⟨hI1, hL1, hK1⟩).mono ?_
  · rintro s A B row ⟨h1, h2, h3⟩ hgr hr
    have hr2 : ∀ r, row = some r → w.heap.size ≤ r ∧ ∃ o : Obj, A.heap[r]? = some o ∧ o.isCells = false := fun r e => by
      obtain ⟨hb, o, ho, hw⟩ := hr r e
      exact ⟨Nat.le_trans hb1.size hb, o, ho, Obj.not_cells_of_walk hw⟩
    exact ⟨hI s A B row h1 hgr hr2, (grownBy_keeps hgr (fun r e => (hr r e).2) h2 rfl).trans h2, (grownBy_keeps hgr (fun r e => (hr r e).2) h3 rfl).trans h3⟩
  · rintro pre x W ⟨h1, h2, h3⟩ hlen
    have hlW : l < W.heap.size := (Array.getElem?_eq_some_iff.1 h2).1
    have hy := run_yield (P := P) (args := #[enc x]) h2 (by rw [← hrec]; simp [recOf])
    refine ⟨_, _, _, _, hy, roundIn_of_wpIn trivial ?_⟩
    rw [← hrec]
    show assign.wpIn _ _ _ _ { tmps := (#[p].zip #[_]).foldl _ a.tmps, defers := [] } W
    rw [zip_one]
    refine wpIn_mono (hround l pre x W (by omega) hlen h1 ⟨_, h2, rfl⟩) ?_
    rintro e a₁ w₁ he
    cases e with
    | normal =>
      obtain ⟨hko, hi1, hbody⟩ := he
      have hl1 : w₁.heap[l]? = some (.loop (rec .ready none)) := hko.same l _ h2 rfl
      have hk1 : w₁.heap[w.heap.size]? = some (.deferred (some [])) := hko.same _ _ h3 rfl
      have hll : l < w₁.heap.size := (Array.getElem?_eq_some_iff.1 hl1).1
      refine ⟨_, run_beginRound hl1 (by rw [← hrec]; rfl), ?_⟩
      have hi2 := hI.putObj (.loop { rec .ready none with state := .busy }) hi1 (by omega) hl1 rfl
      refine wpIn_mono (hbody _ (grownBy_putObj' w₁ l _) ⟨_, hl1, rfl⟩ hi2) ?_
      rintro e a₂ W3 ⟨rfl, hk3o, hi3⟩
      have hl3 := hk3o.same l _ (World.putObj_heap_same hll) rfl
      have hk3 := hk3o.same w.heap.size _ ((World.putObj_heap_other (by omega)).trans hk1) rfl
      have hr3 := run_endRound (P := P) (none : Option Code) hl3
      refine ⟨_, _, hr3, rfl, ⟨hI.putObj _ hi3 (by omega) hl3 rfl, ?_, ?_⟩, ?_⟩
      · rw [World.putObj_heap_same (Array.getElem?_eq_some_iff.1 hl3).1, ← hrec]; rfl
      · rw [World.putObj_heap_other (by omega)]; exact hk3
      · exact ((hko.walks.trans (KeepsWalks.putObj _ hl1 rfl)).trans hk3o.walks).trans (KeepsWalks.putObj _ hl3 rfl)
    | exit id => exact he.elim
    | goto t => exact he.elim
    | ret => exact he.elim
    | panic c => exact he.elim
    | outgrown => exact he.elim
  · rintro e W2 ⟨⟨v, rfl⟩, xs, hS, hi, h2, h3⟩
    refine ⟨none, _, by have := run_endLoop (P := P) h2 (by rw [← hrec]; simp [recOf]); rw [← hrec] at this; exact this, hdone xs _ hS (hI.putObj _ hi (by omega) h2 rfl) ((World.putObj_heap_other (by omega)).trans h3)⟩
end
end Go.Proofs.Ytjmmedpkcedngaa
/- The keys of the cache's map, as the iterator tells them: each once, in whatever order. -/
namespace Go.Proofs.Ytjmmedpkcedngaa
open Go.RowKit Go.Maps
set_option linter.unusedVariables false
set_option maxRecDepth 20000

/-- What has been told, and what is left. -/
def ToldK (es : List Ce) (left : Lit → Bool) (ss : List (ByteArray × Int)) : Prop := (ss ++ (es.filter (fun e => left (keyLit (keyC e)))).map keyC).Perm (es.map keyC)
theorem left_split : ∀ (es : List Ce) (hk : KeysOk es) (ha : KeysApart es) (left : Lit → Bool) (e : Ce), e ∈ es → left (keyLit (keyC e)) = true →
    (es.filter (fun x => left (keyLit (keyC x)))).Perm (e :: es.filter (fun x => left (keyLit (keyC x)) && !(keyLit (keyC x)).sameKey (keyLit (keyC e))))
  | [], _, _, _, _, h, _ => by cases h
  | x :: es, hk, ha, left, e, he, hl => by
    obtain ⟨h1, h2⟩ := List.pairwise_cons.1 ha
    have hk2 : KeysOk es := fun y hy => hk y (by simp [hy])
    rcases List.mem_cons.1 he with rfl | he
    · have e1 : es.filter (fun x => left (keyLit (keyC x)) && !(keyLit (keyC x)).sameKey (keyLit (keyC e))) = es.filter (fun x => left (keyLit (keyC x))) := by
        refine List.filter_congr (fun y hy => ?_)
        rw [same_lit (hk2 y hy) (hk e (by simp))]
        simp [(h1 y hy).symm]
      rw [List.filter_cons_of_pos (by simpa using hl), List.filter_cons_of_neg (by rw [same_lit (hk e (by simp)) (hk e (by simp))]; simp), e1]
    · have ih := left_split es hk2 h2 left e he hl
      have hne : keyC x ≠ keyC e := h1 e he
      have hs : (keyLit (keyC x)).sameKey (keyLit (keyC e)) = false := by rw [same_lit (hk x (by simp)) (hk e (by simp [he]))]; simp [hne]
      by_cases hlx : left (keyLit (keyC x)) = true
      · rw [List.filter_cons_of_pos (by simpa using hlx), List.filter_cons_of_pos (by simp [hlx, hs])]
        exact (ih.cons x).trans (List.Perm.swap _ _ _)
      · rw [List.filter_cons_of_neg (by simpa using hlx), List.filter_cons_of_neg (by simp [hlx])]
        exact ih
theorem ToldK.step {es : List Ce} {left : Lit → Bool} {ss : List (ByteArray × Int)} (h : ToldK es left ss) (hk : KeysOk es) (ha : KeysApart es) (e : Ce) (he : e ∈ es) (hl : left (keyLit (keyC e)) = true) : ToldK es (fun z => left z && !z.sameKey (keyLit (keyC e))) (ss ++ [keyC e]) := by
  unfold ToldK at *
  refine List.Perm.trans ?_ h
  rw [List.append_assoc]
  refine List.Perm.append_left _ ?_
  exact ((left_split es hk ha left e he hl).map keyC).symm
theorem ToldK.done {es : List Ce} {left : Lit → Bool} {ss : List (ByteArray × Int)} (h : ToldK es left ss) (hl : ∀ kl, left kl = false) : ss.Perm (es.map keyC) := by
  unfold ToldK at h
  rw [show es.filter (fun e => left (keyLit (keyC e))) = [] from List.filter_eq_nil_iff.2 (fun e _ => by simp [hl])] at h
  simpa using h
/-- The key that comes is that of an entry. -/
theorem key_of_at {es : List Ce} {D : DataW Value} (ht : TellsC D es) (hk : KeysOk es) {key : Value} {kl : Lit} {y : DataW Value} (hkey : keyOf Try.prog 39 key = some kl) (hat : ∀ zd, D.atKey kl zd = y) : ∃ e ∈ es, kl = keyLit (keyC e) ∧ key = keyV (keyC e) := by
  obtain ⟨l, rfl, hl⟩ := ht
  have hh := Maps.has_true_of_atKey hat
  rw [has_eq, List.any_eq_true] at hh
  obtain ⟨p, hp, hs⟩ := hh
  obtain ⟨e, he, rfl⟩ := List.mem_map.1 (hl.mem_iff.1 hp)
  have e1 : keyLit (keyC e) = kl := WideAt.sameKey_eq hs
  exact ⟨e, he, e1.symm, lawK.inj hkey (e1 ▸ keyOf_key _ (hk e he))⟩
theorem key_size : (Try.prog.info? 39).map (·.size) = some 2 := by kernel_rfl
theorem exec_key {o : Oper} {a : Act} {w : World} {G b : Nat} {p : ByteArray × Int} (hA : w.rangeAt G b (keyL p)) (x : Operand) (ho : o.op = .load 39 x) (hx : a.eval x = .pointer (some ⟨G, b, none⟩)) :
    (execOp a.eval o).run Try.prog w = .ok (.value (keyV p)) w := by
  unfold execOp
  simp only [ho, hx, Sem.run_bind, run_loadAt_mid w G b 39 (keyL p) _ hA Try.underlying39 rfl (by rw [key_size]; rfl)]
  rfl
theorem wp_of_listIn {P : Program} {id : Nat} {l : List Oper} {Q : Exit → Act → World → Prop} {a : Act} {w : World} (h : wpListIn Fence.wide 0 P l.toArray Q l a w) : (Code.region id l.toArray false).wp P Q a w :=
  (wpIn_wide (n := 0)).1 (wpIn_region_lit h)
set_option maxRecDepth 100000 in
set_option maxHeartbeats 1000000 in
theorem keysGives (Bm b : Nat) (es : List Ce) (w : World) (hB : w.cell? ⟨Bm, 0, none⟩ = some (.map (some b))) (hM : CacMap w b es) (hk : KeysOk es) (ha : KeysApart es) :
    SeqGives Fence.wide 0 Try.prog 38 #[.pointer (some ⟨Bm, 0, none⟩)] keyV (fun ss => ss.Perm (es.map keyC)) es.length w := by
  intro l J W hb hJ hY h0
  have hBl : Bm < w.heap.size := World.block_lt_of_cell? w ⟨Bm, 0, none⟩ hB
  have hcell : W.cell? ⟨Bm, 0, none⟩ = some (.map (some b)) := (hb.cell (p := ⟨Bm, 0, none⟩) hBl).trans hB
  have hM2 := hM.kept (hb.block b hM.lt)
  obtain ⟨n, D, hown, hn, ht⟩ := hM2
  obtain ⟨n0, D0, ⟨e0, cl, hb0, F0, hs0, hD0⟩, hn0, l0, hDl, hl0⟩ := hM.kept (hb.block b hM.lt)
  have hsz : Maps.size D = es.length := by
    obtain ⟨l, rfl, hl⟩ := ht
    rw [size_eq, hl.length_eq]; simp
  have HT := Lib.hid ht
  have HK := Lib.hid hk
  have HA := Lib.hid ha
  have HJ := Lib.hid hJ
  have HY := Lib.hid hY
  have H0 := Lib.hid h0
  have HSZ := Lib.hid hsz
  have HST : Hid (ToldK es (Maps.has D) []) := Lib.hid (by
    unfold ToldK
    obtain ⟨l, rfl, hl⟩ := ht
    rw [show es.filter (fun e => Maps.has (DataW.map l) (keyLit (keyC e))) = es from List.filter_eq_self.2 (fun e he => by
      rw [has_eq, List.any_eq_true]
      exact ⟨entD e, hl.mem_iff.2 (List.mem_map.2 ⟨e, he, rfl⟩), WideAt.sameKey_self (isKeyLit _)⟩)]
    simp)
  clear hM ht hk ha hJ hY h0 hb hB hBl hsz hb0 F0 hs0 hD0 hn0 hDl hl0 hn
  refine callsIn_of_wp Try.func38 rfl trivial (wpIn_wide.2 ?_)
  simp only [Try.ntmps38, List.size_toArray, List.length_cons, List.length_nil, Nat.reduceAdd, Nat.reduceSub, Array.replicate_succ, Array.replicate_zero, List.push_toArray, List.append_toArray, List.nil_append, List.cons_append]
  go_wp2_with (first
    | (at_range; refine wpList_range_own _ rfl _ 66 rfl 39 78 lawK Try.underlying66 _ b n _ rfl hown ?_; intro w0 hrg0 hg0 hs0))
  go_frame
  clear hcell
  have HRG := Lib.hid hrg0
  have HJ1 := Lib.hid (HJ.out [] W w0 none H0.out hg0 (fun r e => by cases e))
  clear hrg0 hg0 hs0 hown
  go_loopw [6] (fun _ wr => ∃ (left : Lit → Bool) (cnt : Nat) (ss : List (ByteArray × Int)), Hid (wr.ranges Try.prog 39 elemV b W.heap.size n D left cnt) ∧ ss.length + cnt ≤ es.length ∧ Hid (ToldK es left ss) ∧ Hid (J ss wr)) (fun _ wr => wr.rangeLeft b W.heap.size)
  case atStart => exact ⟨_, _, [], HRG, by rw [HSZ.out]; simp, HST, HJ1⟩
  case round =>
    obtain ⟨left, cnt, ss, HR, hcs, HC, HJs⟩ := hrel
    have hrg := HR.out
    go_wp2_with (first
      | (at_next; refine wpList_next_ranges _ rfl _ rfl 39 lawK elemV id id (fun key _ _ => ⟨key, rfl⟩) (fun v _ _ => ⟨v, rfl⟩) b W.heap.size n _ _ _ rfl hrg ?_ ?_))
    · intro hc0 hl0
      go_wp2_with fail
      go_end0
      exact ⟨⟨_, rfl⟩, ss, HC.out.done hl0, HJs.out⟩
    · intro key v kl y yp w2 cnt2 hkey hlk hv hat hrg2 hlt hg2 hs2 hen
      obtain ⟨e, he, rfl, hke⟩ := key_of_at HT.out HK.out hkey hat
      have HR2 := Lib.hid hrg2
      have HLT : Hid (cnt2 < cnt) := Lib.hid hlt
      have HJ2 := Lib.hid (HJ.out ss wr w2 (some W.heap.size) HJs.out hg2 (fun r e => by cases e; exact ⟨Nat.le_refl _, hrg.iter_walk⟩))
      have HC2 := Lib.hid (HC.out.step HK.out HA.out e he hlk)
      have HLE := Lib.hid hrg.left_eq
      obtain ⟨⟨s, t⟩, hst⟩ : ∃ p, keyC e = p := ⟨_, rfl⟩
      rw [hst] at hke HC2 HR2
      have hke2 : key = .agg #[.string s, .int .i64 t] := hke
      subst hke2
      clear hrg hrg2 hkey hlk hv hat hlt hg2 hs2 HC HJs hke hst he HR
      obtain ⟨W1, hW1⟩ : ∃ W1, w2.alloc (.cells #[.string s, .int .i64 t] 39) = W1 := ⟨_, rfl⟩
      have HKR : Hid (W1.rangeAt w2.heap.size 0 (keyL (s, t))) := Lib.hid (by rw [← hW1]; exact (CellsAt.new w2 39 (keyL (s, t))).range)
      have HR3 := Lib.hid (show W1.ranges Try.prog 39 elemV b W.heap.size n D _ cnt2 from by rw [← hW1]; exact HR2.out.alloc _)
      have HJ3 := Lib.hid (show J ss W1 from by rw [← hW1]; exact HJ.out ss w2 _ none HJ2.out (World.grownBy_alloc _ _ _) (fun r e => by cases e))
      have HYY := Lib.hid (HY.out ss (s, t) W1 HJ3.out (by have := HLT.out; omega))
      clear HR2 HJ2 HST HRG HJ1 H0 HY
      go_upto_region 3 with fail
      first | rw [hW1] | skip
      clear hW1 hen
      refine wp_of_listIn ?_
      refine wide_step rfl rfl ?_
      refine wide_step rfl (exec_key HKR.out _ rfl rfl) ?_
      refine yield_step HYY.out rfl _ _ rfl rfl rfl ?_
      rintro e3 W3 ⟨rfl, hJ3, hk3⟩
      refine ⟨_, rfl, ?_⟩
      have HR4 := Lib.hid (HR3.out.of_walks hk3)
      have HJ4 := Lib.hid hJ3
      clear hJ3 hk3 HYY HR3 HJ3 HKR
      refine wide_step (v := .bool false) rfl rfl ?_
      refine wpListIn_nil ?_
      simp only [Act.put, List.setIfInBounds_toArray, List.set_cons_succ, List.set_cons_zero]
      go_wp2_with fail
      go_roundw
      case rel => exact ⟨_, cnt2, ss ++ [(s, t)], HR4, by have := HLT.out; simp; omega, HC2, HJ4⟩
      case measure => rw [HR4.out.left_eq, HLE.out]; exact HLT.out
end Go.Proofs.Ytjmmedpkcedngaa
/- slices.AppendSeq, slices.Collect and maps.Keys at the cache's keys. -/
namespace Go.Proofs.Ytjmmedpkcedngaa
open Go.RowKit Go.Maps
set_option linter.unusedVariables false
set_option maxRecDepth 20000

theorem CellsAt.own {W W' : World} {row : Option Nat} {G : Nat} {vs : List Value} (h : CellsAt W G vs) (hg : W.grownBy W' row) (hr : ∀ r, row = some r → ∃ o : Obj, W.heap[r]? = some o ∧ o.isCells = false) : CellsAt W' G vs := by
  refine ⟨Nat.lt_of_lt_of_le h.lt hg.size, fun j u hu => cell_kept (h.range j u hu) hg hr, fun j hj => ?_⟩
  obtain ⟨u, hu⟩ : ∃ u, vs[j]? = some u := ⟨_, List.getElem?_eq_getElem hj⟩
  have h1 := h.range j u hu
  exact ⟨by rw [cell_kept h1 hg hr]; rfl, by rw [frozen_kept h1 hg hr]; exact (h.there j hj).2⟩
theorem RowK.own {W W' : World} {row : Option Nat} {B : Nat} {v : Value} {ks : List (ByteArray × Int)} (h : RowK W B v ks) (hg : W.grownBy W' row) (hr : ∀ r, row = some r → ∃ o : Obj, W.heap[r]? = some o ∧ o.isCells = false) : RowK W' B v ks := by
  refine h.kept hg ?_
  rcases h.1.2 with ⟨rfl, _⟩ | ⟨g, cap, cur, rfl, _, hgb, _⟩
  · exact .inl rfl
  · refine .inr fun e' => ?_
    obtain ⟨o, ho, hw⟩ := hr g (by simpa [Value.ownBlock] using e'.symm)
    rw [hgb] at ho; cases ho; cases hw
theorem RowK.slice {w : World} {base : Nat} {v : Value} {D : List (ByteArray × Int)} (h : RowK w base v D) : ∃ ad c, v = .slice ad D.length c := by
  rcases h.1.2 with ⟨rfl, e⟩ | ⟨g, cap, cur, rfl, _⟩
  · exact ⟨none, 0, by rw [e]⟩
  · exact ⟨_, _, rfl⟩
theorem load_key {ops : Array Oper} {rest : List Oper} {op : Oper} {a : Act} {w : World} {Q : Exit → Act → World → Prop} {G o : Nat} {p : ByteArray × Int} (hA : Hid (w.rangeAt G o (keyL p))) (x : Operand) (hw : Region.wanted op (yielded ops a.tmps) = true) (ho : op.op = .load 39 x)
    (hx : a.eval x = .pointer (some ⟨G, o, none⟩)) (h : wpList Try.prog ops Q rest (a.put op.dst (keyV p)) w) : wpList Try.prog ops Q (op :: rest) a w :=
  wpList_load_row hw 39 x ho G o hx (keyL p) _ hA.out Try.underlying39 rfl (by rw [key_size]; rfl) h
theorem keyS_new {w : World} {p : ByteArray × Int} (t : TypeId) : (w.alloc (.cells (keyL p).toArray t)).rangeAt w.heap.size 0 (flatK [p]) := by
  intro j u hu
  rw [World.cell?_alloc_new, Nat.zero_add]
  rw [show flatK [p] = keyL p from List.append_nil _] at hu
  simpa using hu
theorem RowK.isCells {W : World} {B : Nat} {v : Value} {ks : List (ByteArray × Int)} (h : RowK W B v ks) : ∀ (j : Nat) (o : Obj), v.ownBlock = some j → W.heap[j]? = some o → o.isCells = true := by
  intro j o hj ho
  rcases h.1.2 with ⟨rfl, _⟩ | ⟨g, cap, cur, rfl, _, hgb, _⟩
  · cases hj
  · cases hj
    rw [hgb] at ho; cases ho; rfl
theorem RowK.kept2 {w w' : World} {B : Nat} {v : Value} {D : List (ByteArray × Int)} (h : RowK w B v D) (hk : ∀ g, v.ownBlock = some g → w'.heap[g]? = w.heap[g]?) : RowK w' B v D := by
  obtain ⟨⟨h1, h2⟩, h3⟩ := h
  refine ⟨⟨h1, ?_⟩, h3⟩
  rcases h2 with h2 | ⟨g, cap, cur, e1, e2, e3, e4⟩
  · exact .inl h2
  · exact .inr ⟨g, cap, cur, e1, e2, (hk g (by rw [e1]; rfl)).trans e3, e4⟩
theorem RowK.set {w : World} {B G o : Nat} {v u : Value} {D : List (ByteArray × Int)} (h : RowK w B v D) (hG : G < B) : RowK (w.setCell ⟨G, o, none⟩ u) B v D := h.kept2 (fun g hg => heap_setC _ _ _ _ _ (by have := (h.1.lt g hg).1; omega))
/-- Between two rounds. -/
def ApK (w : World) (ss : List (ByteArray × Int)) (W : World) : Prop := ∃ v, CellsAt W w.heap.size [v] ∧ RowK W (w.heap.size + 1) v ss ∧ Below w.heap.size w W
theorem apK_own (w : World) (B : Nat) (hB : w.heap.size ≤ B) : OwnFrom B (ApK w) := by
  rintro ss W W' row ⟨v, h1, h2, h3⟩ hg hr
  exact ⟨v, h1.own hg (fun r e => (hr r e).2), h2.own hg (fun r e => (hr r e).2), h3.grown hg h3.size (fun k e => Nat.le_trans hB (hr k e).1)⟩
set_option maxRecDepth 100000 in
set_option maxHeartbeats 1000000 in
theorem appendSeq_any (gf : Nat) (lb : Array Value) (eg : ∀ args w, (callFunc gf args).run Try.prog w = .ok (.enter gf args) w) (S : List (ByteArray × Int) → Prop) (N : Nat) (hN : N ≤ 999) (w : World) (hseq : SeqGives Fence.wide 0 Try.prog gf lb keyV S N w) :
    Calls Try.prog 44 #[.slice none 0 0, .func (.func gf) #[] lb] w fun e w' => ∃ v ks, e = .returned v ∧ S ks ∧ RowK w' (w.heap.size + 1) v ks ∧ Below w.heap.size w w' := by
  obtain ⟨W0, hW0⟩ : ∃ W0, w.alloc (.cells #[.slice none 0 0] 35) = W0 := ⟨_, rfl⟩
  have HZ0 : Hid (W0.heap.size = w.heap.size + 1) := Lib.hid (by rw [← hW0]; simp)
  have HB0 : Hid (Below w.heap.size w W0) := Lib.hid (by rw [← hW0]; exact (Below.refl _ _).alloc (Nat.le_refl _) _)
  have HI0 : Hid (ApK w [] W0) := Lib.hid ⟨.slice none 0 0, by rw [← hW0]; exact CellsAt.new w 35 [.slice none 0 0], RowK.nil _ _, HB0.out⟩
  have HSEQ := Lib.hid hseq
  have HEG := Lib.hid eg
  clear hseq eg
  refine (callsIn_wide (n := 0)).1 (callsIn_of_wp_marks Try.func44 rfl trivial (wpIn_wide.2 ?_) rfl)
  simp only [Try.ntmps44, List.size_toArray, List.length_cons, List.length_nil, Nat.reduceAdd, Nat.reduceSub, Array.replicate_succ, Array.replicate_zero, List.push_toArray, List.append_toArray, List.nil_append, List.cons_append]
  go_wp2_with fail
  first | rw [hW0] | skip
  clear hW0
  refine range_list (gf := gf) (lb := lb) rfl HEG.out keyV S N w HSEQ.out HB0.out (ApK w) (apK_own w _ HB0.out.size) HI0.out ?round ?done
  case round =>
    rintro l pre ⟨s, t⟩ W hl hlen hI hlo
    have HI := Lib.hid hI
    have HLO := Lib.hid hlo
    have HLL := Lib.hid hl
    have HLE := Lib.hid hlen
    clear hI hlo hl hlen
    refine round_region rfl (fun ⟨_, _, h⟩ => h) ?_
    simp only [List.setIfInBounds_toArray, List.set_cons_succ, List.set_cons_zero, keyV, keyL]
    go_wp2_with fail
    obtain ⟨W1, hW1⟩ : ∃ W1, W.alloc (.cells #[.string s, .int .i64 t] 39) = W1 := ⟨_, rfl⟩
    have HKC : Hid (CellsAt W1 W.heap.size (keyL (s, t))) := Lib.hid (by rw [← hW1]; exact CellsAt.new W 39 (keyL (s, t)))
    have hko : KeepsOthers W W1 := by rw [← hW1]; exact KeepsOthers.alloc _ _
    have hI1 : ApK w pre W1 := by rw [← hW1]; exact apK_own w W0.heap.size HB0.out.size _ _ _ none HI.out (World.grownBy_alloc _ _ _) (fun r e => by cases e)
    try rw [hW1]
    refine ⟨hko, hI1, fun w₂ hg2 hl2 hI2 => ?_⟩
    have HK2 := Lib.hid (HKC.out.own hg2 (fun r e => by cases e; exact hl2)).range
    obtain ⟨v, hc2, hr2, hb2⟩ := hI2
    obtain ⟨ad, c, rfl⟩ := hr2.slice
    have HC2 := Lib.hid hc2
    have HR2 := Lib.hid hr2
    have HB2 := Lib.hid hb2
    clear hko hI1 hg2 hl2 hc2 hr2 hb2 hW1 HI HLO HKC HI0 HSEQ
    have h1 := HC2.out.cell 0 _ rfl
    have HM : Hid (1 = [(s, t)].length) := Lib.hid rfl
    have HL5 : Hid (pre.length + [(s, t)].length ≤ 1000) := Lib.hid (by have := HLE.out; simp; omega)
    have HS0 : Hid (w.heap.size + 1 ≤ w₂.heap.size) := Lib.hid HC2.out.lt
    refine wpIn_block ?_
    refine round_region rfl (fun ⟨_, _, h⟩ => by cases h.1) ?_
    go_wp2_with (first
      | refine load_key HK2 _ rfl rfl rfl ?_
      | (refine build_keyS rfl _ rfl rfl (fun W5 HW5 => ?_); have HB5 : Hid (Below w₂.heap.size w₂ W5) := Lib.hid (by rw [HW5.out]; exact (Below.refl _ _).alloc (Nat.le_refl _) _); have HO5 := Lib.hid (HR2.out.below HB5.out); have HR5 : Hid (W5.rangeAt w₂.heap.size 0 (flatK [(s, t)])) := Lib.hid (by rw [HW5.out]; exact keyS_new _); have HS5 := Lib.hid (Nat.le_trans HS0.out HB5.out.size); have HC5 := Lib.hid (HC2.out.below HB5.out); have HKO5 : Hid (KeepsOthers w₂ W5) := Lib.hid (by rw [HW5.out]; exact KeepsOthers.alloc _ _))
      | (at_builtin; refine append_keys HO5 _ _ rfl rfl rfl [(s, t)] rfl HM HR5 HL5 HS5 (fun v6 w6 HO6 HG6 HA6 => ?_); obtain ⟨ad6, c6, rfl⟩ := HO6.out.slice; have HB6 : Hid (Below (w.heap.size + 1) w₂ w6) := Lib.hid ((HB5.out.mono HS0.out).grown HG6.out HS5.out (fun j hj => (HO5.out.1.lt j hj).1)); have HC6 := Lib.hid (HC2.out.belowB HB6.out (Nat.lt_succ_self _)); have h6 := HC6.out.cell 0 _ rfl; have hf6 := HC6.out.live 0 (by simp); have HKO6 : Hid (KeepsOthers w₂ w6) := Lib.hid (HKO5.out.trans (KeepsOthers.of_grownBy HG6.out (fun j o hj ho => HO5.out.isCells j o hj ho)))))
    have HO7 := HO6.out
    simp only [List.length_append, List.length_singleton] at HO7
    refine ⟨by trivial, HKO6.out.trans (KeepsOthers.setCell _ _ _), ⟨_, HC6.out.set 0 _ (by simp), HO7.set (Nat.lt_succ_self _), ?_⟩⟩
    exact (HB2.out.trans (HB6.out.mono (Nat.le_succ _))).setCell (Nat.le_refl _) _
  case done =>
    rintro xs W hS ⟨v, hc, hr, hb⟩ hD
    obtain ⟨ad, c, rfl⟩ := hr.slice
    have h1 := hc.cell 0 _ rfl
    have HR := Lib.hid hr
    have HB := Lib.hid hb
    have HS := Lib.hid hS
    have HDF := Lib.hid hD
    clear hS hc hr hb hD HSEQ HI0
    go_wp2_with fail
    refine ⟨by simp, .inl ⟨_, _, rfl, run_takeDeferred HDF.out, ?_⟩⟩
    refine ⟨_, results_tmp rfl _ _ _, _, xs, rfl, HS.out, HR.out.kept2 (fun g hg => ?_), ?_⟩
    · exact World.putObj_heap_other (fun e => by have := HR.out.isCells g _ hg (by rw [e]; exact HDF.out); cases this)
    · exact HB.out.trans (below_put _ (by have := HZ0.out; omega))
set_option maxHeartbeats 1000000 in
theorem collect_any (gf : Nat) (lb : Array Value) (eg : ∀ args w, (callFunc gf args).run Try.prog w = .ok (.enter gf args) w) (S : List (ByteArray × Int) → Prop) (N : Nat) (hN : N ≤ 999) (w : World) (hseq : SeqGives Fence.wide 0 Try.prog gf lb keyV S N w) :
    Calls Try.prog 36 #[.func (.func gf) #[] lb] w fun e w' => ∃ v ks, e = .returned v ∧ S ks ∧ RowK w' w.heap.size v ks ∧ Below w.heap.size w w' := by
  have H := Lib.hid (appendSeq_any gf lb eg S N hN w hseq)
  clear eg hseq
  go_enter Try.func36, Try.ntmps36
  go_wp2_with fail
  refine H.out.mono ?_
  rintro e w1 ⟨v, ks, rfl, hS, hr, hb⟩
  obtain ⟨ad, c, rfl⟩ := hr.slice
  have HS := Lib.hid hS
  have HR := Lib.hid hr
  have HB := Lib.hid hb
  clear hS hr hb H
  go_wp2_with fail
  go_ret
  exact ⟨_, ks, rfl, HS.out, HR.out.mono (Nat.le_succ _), HB.out⟩
theorem mapsKeys_any (b : Nat) (w : World) : Calls Try.prog 29 #[.map (some b)] w fun e w' => e = .returned (.func (.func 38) #[] #[.pointer (some ⟨w.heap.size, 0, none⟩)]) ∧ w' = w.alloc (.cells #[.map (some b)] 66) := by
  go_enter Try.func29, Try.ntmps29
  go_wp2_with fail
  go_ret
  exact ⟨rfl, rfl⟩
end Go.Proofs.Ytjmmedpkcedngaa

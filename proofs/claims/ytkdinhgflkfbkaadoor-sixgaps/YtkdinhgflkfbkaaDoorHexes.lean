/- Contracts of strconv.FormatUint at base 16, and of six.digits: a group's digits. -/
import Derived.Test.YtkdinhgflkfbkaaDoorRefSixRow
import Derived.Lib.LaidTab
namespace Go.Proofs.YtkdinhgflkfbkaaDoor
open Go.RowKit
set_option linter.unusedVariables false

/-- The table of math/bits that tells 16's zeros holds its 4. -/
def BruIs (w : World) : Prop := w.cell? ⟨3, 15, none⟩ = some (.int .u8 4)
theorem BruIs.below {w w' : World} (h : BruIs w) (hb : Below w.heap.size w w') : BruIs w' := by
  unfold BruIs at *
  have hlt : 3 < w.heap.size := by
    rcases Nat.lt_or_ge 3 w.heap.size with h2 | h2
    · exact h2
    · simp [World.cell?, Array.getElem?_eq_none h2] at h
  rw [hb.cell (p := ⟨3, 15, none⟩) hlt]
  exact h

set_option maxHeartbeats 400000 in
theorem tz64_16 (w : World) (h : BruIs w) :
    Calls Tryd.prog 75 #[.int .u64 16] w fun e w' => e = .returned (.int .i64 4) ∧ w = w' := by
  have hc : w.cell? ⟨3, 15, none⟩ = some (.int .u8 4) := h
  clear h
  have hx : IntKind.u64.wrap (bits BinOp.and IntKind.u64 16 (IntKind.u64.wrap (-16)) * 285870213051353865) / 288230376151711744 = 15 := by decide +kernel
  go_enter Tryd.func75, Tryd.ntmps75
  go_wp2
  go_ret
  exact ⟨rfl, rfl⟩
set_option maxHeartbeats 400000 in
theorem tz_16 (w : World) (h : BruIs w) :
    Calls Tryd.prog 73 #[.int .u64 16] w fun e w' => e = .returned (.int .i64 4) ∧ w = w' := by
  go_enter Tryd.func73, Tryd.ntmps73
  go_wp2_with fail
  refine (tz64_16 _ h).mono ?_
  rintro e w' ⟨rfl, rfl⟩
  go_wp2_with fail
  go_ret
  exact ⟨rfl, rfl⟩
set_option maxHeartbeats 400000 in
theorem pow_16 (w : World) :
    Calls Tryd.prog 72 #[.int .i64 16] w fun e w' => e = .returned (.bool true) ∧ w = w' := by
  go_enter Tryd.func72, Tryd.ntmps72
  go_wp2
  go_ret
  exact ⟨rfl, rfl⟩
/-- An array of n integers of kind k lies at B. -/
structure ArrI (k : IntKind) (n : Nat) (w : World) (B : Nat) (l : List Nat) : Prop where
  len : l.length = n
  lt : B < w.heap.size
  cells : ∀ j, j < n → w.cell? ⟨B, j, none⟩ = some (.int k ((l.getD j 0 : Nat) : Int))
  live : ∀ j, j < n → w.frozen? ⟨B, j, none⟩ = false
theorem ArrI.below {k : IntKind} {n : Nat} {w w' : World} {B : Nat} {l : List Nat} (h : ArrI k n w B l) (hb : Below w.heap.size w w') : ArrI k n w' B l :=
  ⟨h.len, Nat.lt_of_lt_of_le h.lt hb.size, fun j hj => by rw [hb.cell (p := ⟨B, j, none⟩) h.lt]; exact h.cells j hj, fun j hj => by rw [hb.frozen (p := ⟨B, j, none⟩) h.lt]; exact h.live j hj⟩
theorem ArrI.set {k : IntKind} {n : Nat} {w : World} {B i : Nat} {l : List Nat} (h : ArrI k n w B l) (hi : i < n) (v : Nat) : ArrI k n (w.setCell ⟨B, i, none⟩ (.int k ((v : Nat) : Int))) B (l.set i v) := by
  refine ⟨by simp [h.len], by simpa using h.lt, ?_, ?_⟩
  · intro j hj
    by_cases e : j = i
    · subst e
      rw [World.cell?_setCell_same _ _ _ (h.cells j hj), List.getD_eq_getElem?_getD, List.getElem?_set_self (by rw [h.len]; exact hj)]
      rfl
    · rw [World.cell?_setCell_other _ _ _ _ (by intro h2; injection h2 with _ h3 _; exact e h3.symm), h.cells j hj, List.getD_eq_getElem?_getD, List.getD_eq_getElem?_getD, List.getElem?_set_ne (by omega)]
  · intro j hj
    rw [World.frozen?_setCell]
    exact h.live j hj
theorem ArrI.other {k : IntKind} {n : Nat} {w : World} {B B' i : Nat} {l : List Nat} (h : ArrI k n w B l) (hB : B' ≠ B) (u : Value) : ArrI k n (w.setCell ⟨B', i, none⟩ u) B l := by
  refine ⟨h.len, by simpa using h.lt, ?_, ?_⟩
  · intro j hj
    rw [World.cell?_setCell_other _ _ _ _ (by intro h2; injection h2 with h3 _ _; exact hB h3)]
    exact h.cells j hj
  · intro j hj
    rw [World.frozen?_setCell]
    exact h.live j hj
theorem ArrI.of {k : IntKind} {n : Nat} (w : World) (cs : Array Value) (t : TypeId) (l : List Nat) (h : cs.toList = l.map fun x => Value.int k ((x : Nat) : Int)) (hn : l.length = n) : ArrI k n (w.alloc (.cells cs t)) w.heap.size l := by
  refine ⟨hn, by simp, ?_, ?_⟩
  · intro j hj
    have e : cs[j]? = (l.map fun x => Value.int k ((x : Nat) : Int))[j]? := by rw [← h]; simp
    rw [World.cell?_alloc_new, e, List.getElem?_map, List.getD_eq_getElem?_getD, List.getElem?_eq_getElem (by omega)]
    rfl
  · intro j hj
    exact World.frozen?_alloc_new _ _ _ _

theorem mask_16 (v : Nat) (h : v < 65536) : bits BinOp.and IntKind.u64 (v : Int) 15 = ((v % 16 : Nat) : Int) := by
  have := bits_mask .u64 16 (by decide) (fun n h0 h1 => by rw [IntKind.wrap_u64]; omega) 4 (by decide) (v : Int) (by omega) (by omega)
  rw [show ((2 : Int) ^ 4 - 1) = 15 by decide, show ((2 : Int) ^ 4) = 16 by decide] at this
  rw [this]
  omega
theorem zeros65 : Tryd.zeroCells88.toList = (List.replicate 65 0).map fun x => Value.int .u8 ((x : Nat) : Int) := by kernel_rfl
theorem alnum_at (d : Nat) (h : d < 16) : ∃ x : Nat, (hexc d).toNat = x ∧ ∀ hh, ((({ data := #[48, 49, 50, 51, 52, 53, 54, 55, 56, 57, 97, 98, 99, 100, 101, 102, 103, 104, 105, 106, 107, 108, 109, 110, 111, 112, 113, 114, 115, 116, 117, 118, 119, 120, 121, 122] } : ByteArray)[d]'hh).toNat) = x := by
  refine ⟨_, rfl, ?_⟩
  have hd : d = 0 ∨ d = 1 ∨ d = 2 ∨ d = 3 ∨ d = 4 ∨ d = 5 ∨ d = 6 ∨ d = 7 ∨ d = 8 ∨ d = 9 ∨ d = 10 ∨ d = 11 ∨ d = 12 ∨ d = 13 ∨ d = 14 ∨ d = 15 := by omega
  rcases hd with rfl | rfl | rfl | rfl | rfl | rfl | rfl | rfl | rfl | rfl | rfl | rfl | rfl | rfl | rfl | rfl <;> (intro hh; rfl)
theorem drop_set (l : List Nat) (q x : Nat) (T : List UInt8) (hq : q < l.length) (h : l.drop (q + 1) = T.map fun c => c.toNat) : (l.set q x).drop q = x :: T.map fun c => c.toNat := by
  rw [List.drop_eq_getElem_cons (by simpa using hq), List.drop_set_of_lt (by omega), h]
  simp

set_option maxRecDepth 100000 in
set_option maxHeartbeats 2000000 in
theorem formatBits_16 (n : Nat) (w : World) (hn : n < 65536) (h : BruIs w) :
    Calls Tryd.prog 65 #[.slice none 0 0, .int .u64 (n : Int), .int .i64 16, .bool false, .bool false] w fun e w' => e = .returned (.tuple #[.slice none 0 0, .string (gS n)]) ∧ Below w.heap.size w w' := by
  have hA := ArrI.of w Tryd.zeroCells88 88 (List.replicate 65 0) zeros65 (n := 65) (by decide)
  have b0 : Below w.heap.size w (w.alloc (.cells Tryd.zeroCells88 88)) := (Below.refl _ _).alloc (Nat.le_refl _) _
  have hB := h.below b0
  clear h
  go_enter Tryd.func65, Tryd.ntmps65
  go_wp2_with fail
  generalize w.alloc (.cells Tryd.zeroCells88 88) = W at *
  have HA := Lib.hid hA
  have HB := Lib.hid hB
  clear hA hB
  refine (pow_16 _).mono ?_
  rintro e w' ⟨rfl, rfl⟩
  go_wp2_with fail
  refine (tz_16 _ HB.out).mono ?_
  rintro e w' ⟨rfl, rfl⟩
  go_wp2_with fail
  go_loopw [1, 13] (fun u i wr => ∃ (v k q : Nat) (l : List Nat) (T : List UInt8), v < 65536 ∧ q + 1 + k = 65 ∧ T.length = k ∧ k ≤ 3 ∧ u = .int .u64 (v : Int) ∧ i = .int .i64 ((q : Int) + 1) ∧ Hid (ArrI .u8 65 wr w.heap.size l) ∧ Below w.heap.size w wr ∧ Hid (l.drop (q + 1) = T.map fun c => c.toNat) ∧ Hid (groupL n = groupL v ++ T)) (fun u _ _ => (intOf u).toNat)
  case atStart => exact ⟨n, 0, 64, List.replicate 65 0, [], hn, rfl, rfl, by decide, rfl, rfl, HA, b0, Lib.hid (by rfl), Lib.hid (by simp)⟩
  case round =>
    obtain ⟨v, k, q, l, T, hv, hq, hT, hk3, rfl, rfl, HAr, hbel, HD, HG⟩ := hrel
    have hgc := HAr.out.cells q (by omega)
    have hgl := HAr.out.live q (by omega)
    have q0 : (0 : Int) ≤ (q : Int) := by omega
    have q1 : (q : Int) ≤ 65 := by omega
    have q2 : ¬ 65 = q := by omega
    by_cases h16 : v < 16
    · have hv16 : (v : Int) < 16 := by omega
      obtain ⟨x, hx, ha⟩ := alnum_at v h16
      have hset := HAr.out.set (i := q) (by omega) x
      have hcv : (convert 59 9 (.slice (some ⟨w.heap.size, q, none⟩) (65 - q) (65 - q))).run Tryd.prog (wr.setCell ⟨w.heap.size, q, none⟩ (.int .u8 (x : Int))) = .ok (.string (gS n)) (wr.setCell ⟨w.heap.size, q, none⟩ (.int .u8 (x : Int))) := by
        have e0 : groupL n = hexc v :: T := by rw [HG.out, groupL_one h16]; rfl
        have hl : 65 - q = (groupL n).length := by rw [e0, List.length_cons]; omega
        rw [hl]
        refine run_convert_bytes_back (P := Tryd.prog) _ 59 9 5 ⟨w.heap.size, q, none⟩ _ (groupL n) Tryd.underlying59 Tryd.underlying5 Tryd.underlying9 (fun j hj => ?_)
        have e1 : (⟨w.heap.size, q, none⟩ : Addr).add j = ⟨w.heap.size, q + j, none⟩ := by
          unfold Addr.add
          split <;> simp_all
        rw [e1, hset.cells (q + j) (by omega)]
        have e2 := drop_set l q x T (by rw [HAr.out.len]; omega) HD.out
        have e3 : (l.set q x).getD (q + j) 0 = ((l.set q x).drop q).getD j 0 := by
          rw [List.getD_eq_getElem?_getD, List.getD_eq_getElem?_getD, List.getElem?_drop]
        rw [e3, e2]
        have e4 : x :: (T.map fun c => c.toNat) = (groupL n).map fun c => c.toNat := by rw [e0, List.map_cons, hx]
        rw [e4, List.getD_eq_getElem?_getD, List.getElem?_map, List.getElem?_eq_getElem hj]
        rfl
      have hb2 := hbel.setCell (p := ⟨w.heap.size, q, none⟩) (Nat.le_refl _) (.int .u8 (x : Int))
      clear hset
      go_wp2_with fail
      go_ret2
      exact ⟨rfl, hb2⟩
    · have hm := mask_16 v hv
      obtain ⟨d, ed⟩ : ∃ d, v % 16 = d := ⟨_, rfl⟩
      have hd : d < 16 := by omega
      have hi16 : (16 : Int) ≤ (v : Int) := by omega
      rw [ed] at hm
      obtain ⟨x, hx, ha⟩ := alnum_at d hd
      have e0 : groupL n = groupL (v / 16) ++ hexc d :: T := by rw [HG.out, groupL_more h16, ed]; simp
      have hl4 := (groupL_length n hn).2
      have hl1 := (groupL_length (v / 16) (by omega)).1
      rw [e0, List.length_append, List.length_cons] at hl4
      have HS := Lib.hid (HAr.out.set (i := q) (by omega) x)
      have HE := Lib.hid e0
      have HX := Lib.hid hx
      have HDv := Lib.hid ed
      clear e0 hx ed
      go_wp2_with fail
      go_roundw
      case rel => exact ⟨v / 16, k + 1, q - 1, l.set q x, hexc d :: T, by omega, by omega, by simp [hT], by omega, by first | rfl | (congr 1; omega), by congr 1; omega, HS, hbel.setCell (p := ⟨w.heap.size, q, none⟩) (Nat.le_refl _) _, Lib.hid (by
        rw [show q - 1 + 1 = q by omega, drop_set l q x T (by rw [HAr.out.len]; omega) HD.out, List.map_cons, HX.out]), HE⟩
      case measure => simp [intOf]; omega

set_option maxHeartbeats 1000000 in
theorem fmtUint_16 (n : Nat) (w : World) (hn : n < 65536) (h : BruIs w) :
    Calls Tryd.prog 55 #[.int .u64 (n : Int), .int .i64 16] w fun e w' => e = .returned (.string (gS n)) ∧ Below w.heap.size w w' := by
  have HB := Lib.hid h
  clear h
  go_enter Tryd.func55, Tryd.ntmps55
  go_wp2_with fail
  refine (formatBits_16 n _ hn HB.out).mono ?_
  rintro e w1 ⟨rfl, hb⟩
  go_wp2_with fail
  go_ret
  exact ⟨rfl, hb⟩
set_option maxHeartbeats 1000000 in
theorem formatUint_16 (n : Nat) (w : World) (hn : n < 65536) (h : BruIs w) :
    Calls Tryd.prog 50 #[.int .u64 (n : Int), .int .i64 16] w fun e w' => e = .returned (.string (gS n)) ∧ Below w.heap.size w w' := by
  have HB := Lib.hid h
  clear h
  go_enter Tryd.func50, Tryd.ntmps50
  go_wp2_with fail
  refine (fmtUint_16 n _ hn HB.out).mono ?_
  rintro e w1 ⟨rfl, hb⟩
  go_wp2_with fail
  go_ret
  exact ⟨rfl, hb⟩
set_option maxHeartbeats 1000000 in
theorem digits_any (n : Nat) (w : World) (hn : n < 65536) (h : BruIs w) :
    Calls Tryd.prog 38 #[.int .u16 (n : Int)] w fun e w' => e = .returned (.string (gS n)) ∧ Below w.heap.size w w' := by
  have HB := Lib.hid h
  clear h
  go_enter Tryd.func38, Tryd.ntmps38
  go_wp2_with fail
  refine (formatUint_16 n _ hn HB.out).mono ?_
  rintro e w1 ⟨rfl, hb⟩
  go_wp2_with fail
  go_ret
  exact ⟨rfl, hb⟩
end Go.Proofs.YtkdinhgflkfbkaaDoor

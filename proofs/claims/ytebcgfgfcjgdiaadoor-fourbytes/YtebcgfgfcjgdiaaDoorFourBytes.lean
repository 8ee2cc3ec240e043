/- For every four bytes and every other four the statement FourBytes answers true, where the library's three tables hold what the program's text lays in them (the card ties them): an address's bytes are those of its strict text, and others are told by others. -/
import Derived.Test.YtebcgfgfcjgdiaaDoorHeld4
import Derived.Test.YtebcgfgfcjgdiaaDoorEqArr
import Derived.Test.YtebcgfgfcjgdiaaDoorDoorKit
import Derived.Test.YtebcgfgfcjgdiaaDoorOpenArr
import Derived.ProofKit
import Derived.OpenShut
import Derived.ShutString
import Derived.ChangeOld
import Derived.Below
namespace Go.Proofs.YtebcgfgfcjgdiaaDoor.fourBytes
open Go.ChangeShapes Go.WideShapes Go.ChangeAt Go.RowKit
open Go.ChangeMaps (open_string shut_string)
set_option linter.unusedVariables false

theorem own : ownKnob Tryd.prog.godebug = none := by kernel_rfl

set_option maxRecDepth 100000 in
set_option maxHeartbeats 8000000 in
theorem walk_same (a b c d n : Nat) (ha : a < 256) (hb : b < 256) (hc : c < 256) (hd : d < 256) (hn : n = num4 a b c d) (w : World)
    (htab : ∀ w', Below w.heap.size w w' → Lib.TabIs Tryd.prog w' "internal/strconv.uint64pow10" .u64 Lib.pow10Tab) :
    Calls Tryd.prog 4 #[arr4 a b c d, arr4 a b c d] w fun e w' => e = .returned (.bool true) ∧ Below w.heap.size w w' := by
  have HT := Lib.hid htab
  have HN := Lib.hid (And.intro ha (And.intro hb (And.intro hc (And.intro hd hn))))
  obtain ⟨T, hTt⟩ : ∃ T, text4 a b c d = T := ⟨_, rfl⟩
  have HTT := Lib.hid hTt
  have HSt : Hid (strictB T = some n) := Lib.hid (by rw [← hTt]; exact text4_strict a b c d n ha hb hc hd hn)
  have hTz : T.size ≤ 90 := by rw [← hTt]; exact text4_size a b c d ha hb hc hd
  have tcat0 := text4_cat a b c d
  rw [hTt] at tcat0
  have q1 := eq4_true a b c d
  have hself : (T.toList == T.toList) = true := by simp
  have hnn : ((n : Int) == (n : Int)) = true := by simp
  clear htab hn hTt
  obtain ⟨Da, hDa⟩ : ∃ D, ofL (dec a) = D := ⟨_, rfl⟩
  have la : Da.size ≤ 21 := by rw [← hDa, ofL_size]; exact dec_small a ha
  have Ha := Lib.hid (And.intro ha hDa)
  clear hDa
  obtain ⟨Db, hDb⟩ : ∃ D, ofL (dec b) = D := ⟨_, rfl⟩
  have lb : Db.size ≤ 21 := by rw [← hDb, ofL_size]; exact dec_small b hb
  have Hb := Lib.hid (And.intro hb hDb)
  clear hDb
  obtain ⟨Dc, hDc⟩ : ∃ D, ofL (dec c) = D := ⟨_, rfl⟩
  have lc : Dc.size ≤ 21 := by rw [← hDc, ofL_size]; exact dec_small c hc
  have Hc := Lib.hid (And.intro hc hDc)
  clear hDc
  obtain ⟨Dd, hDd⟩ : ∃ D, ofL (dec d) = D := ⟨_, rfl⟩
  have ld : Dd.size ≤ 21 := by rw [← hDd, ofL_size]; exact dec_small d hd
  have Hd := Lib.hid (And.intro hd hDd)
  clear hDd
  have tcat : ∀ X Y Z : ByteArray, X.data.toList = [46] → Y.data.toList = [46] → Z.data.toList = [46] → Da ++ X ++ Db ++ Y ++ Dc ++ Z ++ Dd = T := by
    intro X Y Z
    rw [← Ha.out.2, ← Hb.out.2, ← Hc.out.2, ← Hd.out.2]
    exact tcat0 X Y Z
  clear tcat0
  have f0 : ¬ 9223372036854775807 < Da.size + 1 := by omega
  have f1 : ¬ 9223372036854775807 < Da.size + 1 + Db.size := by omega
  have f2 : ¬ 9223372036854775807 < Da.size + 1 + Db.size + 1 := by omega
  have f3 : ¬ 9223372036854775807 < Da.size + 1 + Db.size + 1 + Dc.size := by omega
  have f4 : ¬ 9223372036854775807 < Da.size + 1 + Db.size + 1 + Dc.size + 1 := by omega
  have f5 : ¬ 9223372036854775807 < Da.size + 1 + Db.size + 1 + Dc.size + 1 + Dd.size := by omega
  unfold arr4
  go_enter Tryd.func4, Tryd.ntmps4
  go_wp2_with fail
  have hS := Held.start a b c d a b c d w 28
  generalize (w.alloc (.cells #[.int .u8 (a : Int), .int .u8 (b : Int), .int .u8 (c : Int), .int .u8 (d : Int)] 28)).alloc (.cells #[.int .u8 (a : Int), .int .u8 (b : Int), .int .u8 (c : Int), .int .u8 (d : Int)] 28) = w1 at *
  have hkeep : Held w.heap.size (w.heap.size + 1) a b c d a b c d w w1.drew := Held.drew hS
  clear hS
  go_region_held3 (fun w' => w'.cell? ⟨w.heap.size, 0, none⟩ = some (.int .u8 (a : Int)) ∧ w'.cell? ⟨w.heap.size, 1, none⟩ = some (.int .u8 (b : Int)) ∧ w'.cell? ⟨w.heap.size, 2, none⟩ = some (.int .u8 (c : Int)) ∧ w'.cell? ⟨w.heap.size, 3, none⟩ = some (.int .u8 (d : Int)) ∧ w'.cell? ⟨w.heap.size + 1, 0, none⟩ = some (.int .u8 (a : Int)) ∧ w'.cell? ⟨w.heap.size + 1, 1, none⟩ = some (.int .u8 (b : Int)) ∧ w'.cell? ⟨w.heap.size + 1, 2, none⟩ = some (.int .u8 (c : Int)) ∧ w'.cell? ⟨w.heap.size + 1, 3, none⟩ = some (.int .u8 (d : Int)) ∧ w.heap.size < w'.heap.size ∧ w.heap.size + 1 < w'.heap.size ∧ Below w.heap.size w w')
    (first | (with_reducible assumption) | with_reducible exact hkeep)
    (first
      | (go_at_call 12; refine (Calls.held (A := w.heap.size) (B := w.heap.size + 1) (a := a) (b := b) (c := c) (d := d) (a' := a) (b' := b) (c' := c) (d' := d) (W := w) (refDecimal_wrap _ _ _ (by with_reducible assumption)) (by with_reducible assumption)).mono ?_; rintro e w2 ⟨rfl, hS2⟩))
  clear f0 f1 f2 f3 f4 f5
  go_wp2_with fail
  clear tcat
  refine (strict_at T (some n) _ (by omega) HSt.out).mono ?_
  rintro e w3 ⟨rfl, hb3⟩
  have hS3 := Held.next hS2 hb3
  have hkeep3 : Held w.heap.size (w.heap.size + 1) a b c d a b c d w w3.drew := Held.drew hS3
  clear hS2 hkeep hS3
  unfold strictRet
  go_wp2_with fail
  go_region_held3 (fun w' => w'.cell? ⟨w.heap.size, 0, none⟩ = some (.int .u8 (a : Int)) ∧ w'.cell? ⟨w.heap.size, 1, none⟩ = some (.int .u8 (b : Int)) ∧ w'.cell? ⟨w.heap.size, 2, none⟩ = some (.int .u8 (c : Int)) ∧ w'.cell? ⟨w.heap.size, 3, none⟩ = some (.int .u8 (d : Int)) ∧ w'.cell? ⟨w.heap.size + 1, 0, none⟩ = some (.int .u8 (a : Int)) ∧ w'.cell? ⟨w.heap.size + 1, 1, none⟩ = some (.int .u8 (b : Int)) ∧ w'.cell? ⟨w.heap.size + 1, 2, none⟩ = some (.int .u8 (c : Int)) ∧ w'.cell? ⟨w.heap.size + 1, 3, none⟩ = some (.int .u8 (d : Int)) ∧ w.heap.size < w'.heap.size ∧ w.heap.size + 1 < w'.heap.size ∧ Below w.heap.size w w')
    (first | (with_reducible assumption) | with_reducible exact hkeep3)
    (first
      | (go_at_call 10; refine (Calls.held (A := w.heap.size) (B := w.heap.size + 1) (a := a) (b := b) (c := c) (d := d) (a' := a) (b' := b) (c' := c) (d' := d) (W := w) (of_hid _ _ _ _ _ _ (by with_reducible assumption)) (by with_reducible assumption)).mono ?_; rintro e w4 ⟨rfl, hS4⟩)
      | (go_at_call 8; refine (Calls.held (A := w.heap.size) (B := w.heap.size + 1) (a := a) (b := b) (c := c) (d := d) (a' := a) (b' := b) (c' := c) (d' := d) (W := w) (bytes_hid _ _ _ _ _ _ (by with_reducible assumption)) (by with_reducible assumption)).mono ?_; rintro e w4 ⟨rfl, hS4⟩)
      | (go_at_call 5; refine (Calls.held (A := w.heap.size) (B := w.heap.size + 1) (a := a) (b := b) (c := c) (d := d) (a' := a) (b' := b) (c' := c) (d' := d) (W := w) (print_hid _ _ _ _ _ _ _ _ (by with_reducible assumption) (by with_reducible assumption) (by with_reducible assumption) (Held.bel (A := w.heap.size) (B := w.heap.size + 1) (a := a) (b := b) (c := c) (d := d) (a' := a) (b' := b) (c' := c) (d' := d) (by with_reducible assumption))) (by with_reducible assumption)).mono ?_; rintro e w4 ⟨rfl, hS4⟩)
      | (go_at_call 11; refine (Calls.held (A := w.heap.size) (B := w.heap.size + 1) (a := a) (b := b) (c := c) (d := d) (a' := a) (b' := b) (c' := c) (d' := d) (W := w) (lives_any _) (by with_reducible assumption)).mono ?_; rintro e w4 ⟨rfl, hS4⟩))
  all_goals
    go_wp2_with fail
    go_ret
    exact ⟨rfl, Held.bel hS4⟩

set_option maxRecDepth 100000 in
set_option maxHeartbeats 8000000 in
theorem walk_other (a b c d a' b' c' d' n m : Nat) (ha : a < 256) (hb : b < 256) (hc : c < 256) (hd : d < 256) (ha' : a' < 256) (hb' : b' < 256) (hc' : c' < 256) (hd' : d' < 256) (hn : n = num4 a b c d) (hm : m = num4 a' b' c' d') (hne : ¬ (a = a' ∧ b = b' ∧ c = c' ∧ d = d')) (w : World)
    (htab : ∀ w', Below w.heap.size w w' → Lib.TabIs Tryd.prog w' "internal/strconv.uint64pow10" .u64 Lib.pow10Tab) :
    Calls Tryd.prog 4 #[arr4 a b c d, arr4 a' b' c' d'] w fun e w' => e = .returned (.bool true) ∧ Below w.heap.size w w' := by
  have HT := Lib.hid htab
  have HN := Lib.hid (And.intro ha (And.intro hb (And.intro hc (And.intro hd hn))))
  have HM := Lib.hid (And.intro ha' (And.intro hb' (And.intro hc' (And.intro hd' hm))))
  obtain ⟨T, hTt⟩ : ∃ T, text4 a b c d = T := ⟨_, rfl⟩
  have HTT := Lib.hid hTt
  have HSt : Hid (strictB T = some n) := Lib.hid (by rw [← hTt]; exact text4_strict a b c d n ha hb hc hd hn)
  have hTz : T.size ≤ 90 := by rw [← hTt]; exact text4_size a b c d ha hb hc hd
  have tcat0 := text4_cat a b c d
  rw [hTt] at tcat0
  have hnm : ((n : Int) == (m : Int)) = false := by
    rw [hn, hm]
    simp only [beq_eq_false_iff_ne, ne_eq, Int.natCast_inj]
    intro e
    exact hne (num4_inj ha hb hc hd ha' hb' hc' hd' e)
  have q1 := eq4_true a b c d
  have q2 := eq4_false a b c d a' b' c' d' hne
  have hself : (T.toList == T.toList) = true := by simp
  have hnn : ((n : Int) == (n : Int)) = true := by simp
  clear htab hn hm hTt hne
  obtain ⟨Da, hDa⟩ : ∃ D, ofL (dec a) = D := ⟨_, rfl⟩
  have la : Da.size ≤ 21 := by rw [← hDa, ofL_size]; exact dec_small a ha
  have Ha := Lib.hid (And.intro ha hDa)
  clear hDa
  obtain ⟨Db, hDb⟩ : ∃ D, ofL (dec b) = D := ⟨_, rfl⟩
  have lb : Db.size ≤ 21 := by rw [← hDb, ofL_size]; exact dec_small b hb
  have Hb := Lib.hid (And.intro hb hDb)
  clear hDb
  obtain ⟨Dc, hDc⟩ : ∃ D, ofL (dec c) = D := ⟨_, rfl⟩
  have lc : Dc.size ≤ 21 := by rw [← hDc, ofL_size]; exact dec_small c hc
  have Hc := Lib.hid (And.intro hc hDc)
  clear hDc
  obtain ⟨Dd, hDd⟩ : ∃ D, ofL (dec d) = D := ⟨_, rfl⟩
  have ld : Dd.size ≤ 21 := by rw [← hDd, ofL_size]; exact dec_small d hd
  have Hd := Lib.hid (And.intro hd hDd)
  clear hDd
  have tcat : ∀ X Y Z : ByteArray, X.data.toList = [46] → Y.data.toList = [46] → Z.data.toList = [46] → Da ++ X ++ Db ++ Y ++ Dc ++ Z ++ Dd = T := by
    intro X Y Z
    rw [← Ha.out.2, ← Hb.out.2, ← Hc.out.2, ← Hd.out.2]
    exact tcat0 X Y Z
  clear tcat0
  have f0 : ¬ 9223372036854775807 < Da.size + 1 := by omega
  have f1 : ¬ 9223372036854775807 < Da.size + 1 + Db.size := by omega
  have f2 : ¬ 9223372036854775807 < Da.size + 1 + Db.size + 1 := by omega
  have f3 : ¬ 9223372036854775807 < Da.size + 1 + Db.size + 1 + Dc.size := by omega
  have f4 : ¬ 9223372036854775807 < Da.size + 1 + Db.size + 1 + Dc.size + 1 := by omega
  have f5 : ¬ 9223372036854775807 < Da.size + 1 + Db.size + 1 + Dc.size + 1 + Dd.size := by omega
  unfold arr4
  go_enter Tryd.func4, Tryd.ntmps4
  go_wp2_with fail
  have hS := Held.start a b c d a' b' c' d' w 28
  generalize (w.alloc (.cells #[.int .u8 (a : Int), .int .u8 (b : Int), .int .u8 (c : Int), .int .u8 (d : Int)] 28)).alloc (.cells #[.int .u8 (a' : Int), .int .u8 (b' : Int), .int .u8 (c' : Int), .int .u8 (d' : Int)] 28) = w1 at *
  have hkeep : Held w.heap.size (w.heap.size + 1) a b c d a' b' c' d' w w1.drew := Held.drew hS
  clear hS
  go_region_held3 (fun w' => w'.cell? ⟨w.heap.size, 0, none⟩ = some (.int .u8 (a : Int)) ∧ w'.cell? ⟨w.heap.size, 1, none⟩ = some (.int .u8 (b : Int)) ∧ w'.cell? ⟨w.heap.size, 2, none⟩ = some (.int .u8 (c : Int)) ∧ w'.cell? ⟨w.heap.size, 3, none⟩ = some (.int .u8 (d : Int)) ∧ w'.cell? ⟨w.heap.size + 1, 0, none⟩ = some (.int .u8 (a' : Int)) ∧ w'.cell? ⟨w.heap.size + 1, 1, none⟩ = some (.int .u8 (b' : Int)) ∧ w'.cell? ⟨w.heap.size + 1, 2, none⟩ = some (.int .u8 (c' : Int)) ∧ w'.cell? ⟨w.heap.size + 1, 3, none⟩ = some (.int .u8 (d' : Int)) ∧ w.heap.size < w'.heap.size ∧ w.heap.size + 1 < w'.heap.size ∧ Below w.heap.size w w')
    (first | (with_reducible assumption) | with_reducible exact hkeep)
    (first
      | (go_at_call 12; refine (Calls.held (A := w.heap.size) (B := w.heap.size + 1) (a := a) (b := b) (c := c) (d := d) (a' := a') (b' := b') (c' := c') (d' := d') (W := w) (refDecimal_wrap _ _ _ (by with_reducible assumption)) (by with_reducible assumption)).mono ?_; rintro e w2 ⟨rfl, hS2⟩))
  clear f0 f1 f2 f3 f4 f5
  go_wp2_with fail
  clear tcat
  refine (strict_at T (some n) _ (by omega) HSt.out).mono ?_
  rintro e w3 ⟨rfl, hb3⟩
  have hS3 := Held.next hS2 hb3
  have hkeep3 : Held w.heap.size (w.heap.size + 1) a b c d a' b' c' d' w w3.drew := Held.drew hS3
  clear hS2 hkeep hS3
  unfold strictRet
  go_wp2_with fail
  go_region_held3 (fun w' => w'.cell? ⟨w.heap.size, 0, none⟩ = some (.int .u8 (a : Int)) ∧ w'.cell? ⟨w.heap.size, 1, none⟩ = some (.int .u8 (b : Int)) ∧ w'.cell? ⟨w.heap.size, 2, none⟩ = some (.int .u8 (c : Int)) ∧ w'.cell? ⟨w.heap.size, 3, none⟩ = some (.int .u8 (d : Int)) ∧ w'.cell? ⟨w.heap.size + 1, 0, none⟩ = some (.int .u8 (a' : Int)) ∧ w'.cell? ⟨w.heap.size + 1, 1, none⟩ = some (.int .u8 (b' : Int)) ∧ w'.cell? ⟨w.heap.size + 1, 2, none⟩ = some (.int .u8 (c' : Int)) ∧ w'.cell? ⟨w.heap.size + 1, 3, none⟩ = some (.int .u8 (d' : Int)) ∧ w.heap.size < w'.heap.size ∧ w.heap.size + 1 < w'.heap.size ∧ Below w.heap.size w w')
    (first | (with_reducible assumption) | with_reducible exact hkeep3)
    (first
      | (go_at_call 10; refine (Calls.held (A := w.heap.size) (B := w.heap.size + 1) (a := a) (b := b) (c := c) (d := d) (a' := a') (b' := b') (c' := c') (d' := d') (W := w) (of_hid _ _ _ _ _ _ (by with_reducible assumption)) (by with_reducible assumption)).mono ?_; rintro e w4 ⟨rfl, hS4⟩)
      | (go_at_call 8; refine (Calls.held (A := w.heap.size) (B := w.heap.size + 1) (a := a) (b := b) (c := c) (d := d) (a' := a') (b' := b') (c' := c') (d' := d') (W := w) (bytes_hid _ _ _ _ _ _ (by with_reducible assumption)) (by with_reducible assumption)).mono ?_; rintro e w4 ⟨rfl, hS4⟩)
      | (go_at_call 5; refine (Calls.held (A := w.heap.size) (B := w.heap.size + 1) (a := a) (b := b) (c := c) (d := d) (a' := a') (b' := b') (c' := c') (d' := d') (W := w) (print_hid _ _ _ _ _ _ _ _ (by with_reducible assumption) (by with_reducible assumption) (by with_reducible assumption) (Held.bel (A := w.heap.size) (B := w.heap.size + 1) (a := a) (b := b) (c := c) (d := d) (a' := a') (b' := b') (c' := c') (d' := d') (by with_reducible assumption))) (by with_reducible assumption)).mono ?_; rintro e w4 ⟨rfl, hS4⟩)
      | (go_at_call 11; refine (Calls.held (A := w.heap.size) (B := w.heap.size + 1) (a := a) (b := b) (c := c) (d := d) (a' := a') (b' := b') (c' := c') (d' := d') (W := w) (lives_any _) (by with_reducible assumption)).mono ?_; rintro e w4 ⟨rfl, hS4⟩))
  all_goals
    go_wp2_with fail
    go_ret
    exact ⟨rfl, Held.bel hS4⟩

theorem walk4 (a b c d a' b' c' d' n m : Nat) (ha : a < 256) (hb : b < 256) (hc : c < 256) (hd : d < 256) (ha' : a' < 256) (hb' : b' < 256) (hc' : c' < 256) (hd' : d' < 256) (hn : n = num4 a b c d) (hm : m = num4 a' b' c' d') (w : World)
    (htab : ∀ w', Below w.heap.size w w' → Lib.TabIs Tryd.prog w' "internal/strconv.uint64pow10" .u64 Lib.pow10Tab) :
    Calls Tryd.prog 4 #[arr4 a b c d, arr4 a' b' c' d'] w fun e w' => e = .returned (.bool true) ∧ Below w.heap.size w w' := by
  by_cases h : a = a' ∧ b = b' ∧ c = c' ∧ d = d'
  · obtain ⟨rfl, rfl, rfl, rfl⟩ := h
    exact walk_same a b c d n ha hb hc hd hn w htab
  · exact walk_other a b c d a' b' c' d' n m ha hb hc hd ha' hb' hc' hd' hn hm h w htab

theorem walk (z0 z1 : List Int) (l0 : z0.length = 4) (w0 : ∀ z ∈ z0, (Lit.int .u8 z).wf = true) (l1 : z1.length = 4) (w1 : ∀ z ∈ z1, (Lit.int .u8 z).wf = true) (w : World)
    (htab : ∀ w', Below w.heap.size w w' → Lib.TabIs Tryd.prog w' "internal/strconv.uint64pow10" .u64 Lib.pow10Tab) :
    Calls Tryd.prog 4 #[.agg (z0.map (Value.int .u8)).toArray, .agg (z1.map (Value.int .u8)).toArray] w fun e w' => e = .returned (.bool true) ∧ Below w.heap.size w w' := by
  obtain ⟨a, b, c, d, rfl⟩ := list4 z0 l0
  obtain ⟨a', b', c', d', rfl⟩ := list4 z1 l1
  have ba := bounds_u8 (w0 a (by simp))
  have bb := bounds_u8 (w0 b (by simp))
  have bc := bounds_u8 (w0 c (by simp))
  have bd := bounds_u8 (w0 d (by simp))
  have ba' := bounds_u8 (w1 a' (by simp))
  have bb' := bounds_u8 (w1 b' (by simp))
  have bc' := bounds_u8 (w1 c' (by simp))
  have bd' := bounds_u8 (w1 d' (by simp))
  obtain ⟨a, rfl⟩ := Int.eq_ofNat_of_zero_le ba.1
  obtain ⟨b, rfl⟩ := Int.eq_ofNat_of_zero_le bb.1
  obtain ⟨c, rfl⟩ := Int.eq_ofNat_of_zero_le bc.1
  obtain ⟨d, rfl⟩ := Int.eq_ofNat_of_zero_le bd.1
  obtain ⟨a', rfl⟩ := Int.eq_ofNat_of_zero_le ba'.1
  obtain ⟨b', rfl⟩ := Int.eq_ofNat_of_zero_le bb'.1
  obtain ⟨c', rfl⟩ := Int.eq_ofNat_of_zero_le bc'.1
  obtain ⟨d', rfl⟩ := Int.eq_ofNat_of_zero_le bd'.1
  exact walk4 a b c d a' b' c' d' _ _ (by omega) (by omega) (by omega) (by omega) (by omega) (by omega) (by omega) (by omega) rfl rfl w htab

theorem door_met (os : Os) (args : Array Value) : laidMetH Tryd.prog Rows.fourBytesRow.laid ((World.doorLaid Tryd.prog 400 os).forCall (fun _ _ => 0) ⟨#[], args, []⟩).memory :=
  laidMetH_of_parts3 (fuel := 8) (laidMet_of_run' 8 (by kernel_rfl) (by kernel_rfl)) (by kernel_rfl) (by kernel_rfl)

set_option maxRecDepth 100000 in
theorem lifted (os : Os) (started : os.Started) (H : Type) (enc : TypeId × Value → H) :
    ReturnsInHanded {} Tryd.checked os 4 .any (fun w args => (Rows.fourBytesSpec.pre enc Tryd.prog Tryd.f4 [] false w args ∧ laidMetH Tryd.prog Rows.fourBytesRow.laid w) ∧ sizedMet enc Tryd.prog Tryd.f4 (OpenSpec.ofChange Rows.fourBytesSpec) false w args)
      (Rows.fourBytesSpec.post enc Tryd.prog Tryd.f4 false true false false) := by
  refine returnsInHanded_of_change_and (C := Tryd.checked) (X := fun w _ => laidMetH Tryd.prog Rows.fourBytesRow.laid w) (fun _ _ _ hh h => h.of_heap hh) own started (by kernel_rfl) Tryd.func4
    (ChangeSpec.witness_shaped (enc := enc) (C := Tryd.checked) (os := os) (X := fun w _ => laidMetH Tryd.prog Rows.fourBytesRow.laid w) false (World.doorLaid Tryd.prog 400 os) #[.agg #[.int .u8 0, .int .u8 0, .int .u8 0, .int .u8 0], .agg #[.int .u8 0, .int .u8 0, .int .u8 0, .int .u8 0]] 8 rfl (World.shaped_of_RefB (by kernel_rfl) (by kernel_rfl)) (by kernel_rfl) (by kernel_rfl) (by kernel_rfl) (door_met os _)) ?_
  intro W base args ds gs before hval0 hW _ _ hL _
  have hval : ∀ (j : Nat) t v, Tryd.f4.params[j]? = some t → args[j]? = some v → Value.okWide Tryd.prog W .any base t v := hval0
  have hW' := hW
  obtain ⟨p, q, hA0, hV, rfl, hfz, hnd⟩ := hW
  have hA : DataW.TrodAll enc Tryd.prog W 0 (fun _ => true) true Tryd.f4.params.toList args.toList ds p := hA0
  rw [Tryd.params4] at hA hval
  obtain ⟨v0, vs0, d0, ds0, p0, q0, hargs, rfl, rfl, h0, r0⟩ := trodAll_cons hA
  obtain ⟨v1, vs1, d1, ds1, p1, q1, rfl, rfl, rfl, h1, r1⟩ := trodAll_cons r0
  obtain ⟨rfl, rfl, rfl⟩ := trodAll_nil r1
  obtain rfl : args = #[v0, v1] := by cases args; simp_all
  obtain ⟨rfl, rfl⟩ := trodVars_none hV
  have k0 := h0
  have lt0 : ∀ x ∈ p0, x.block < W.heap.size := by obtain ⟨m, hm⟩ := k0; exact DataW.trod_lt m _ _ _ hm
  obtain ⟨z0, rfl, l0, w0⟩ := open_int_array Tryd.underlying28 Tryd.underlying5 (by kernel_rfl) (by kernel_rfl) (hval 0 28 v0 rfl rfl) h0
  have k1 := h1
  have lt1 : ∀ x ∈ p1, x.block < W.heap.size := by obtain ⟨m, hm⟩ := k1; exact DataW.trod_lt m _ _ _ hm
  obtain ⟨z1, rfl, l1, w1⟩ := open_int_array Tryd.underlying28 Tryd.underlying5 (by kernel_rfl) (by kernel_rfl) (hval 1 28 v1 rfl rfl) h1
  clear hA0 hval0
  refine (walk z0 z1 l0 w0 l1 w1 W (of_laid Rows.fourBytesRow.laid rfl hL)).mono fun e W' ⟨he, bel⟩ => ?_
  subst he
  exact ⟨_, rfl, _, _, _, [], _, [], hW', trodAll_mk1 (shut_bool Tryd.underlying4 _), (trodAll_cons_mk (Below.trod laidOut (by kernel_rfl) (of_decide_eq_true (by kernel_rfl)) k0 bel lt0) (trodAll_cons_mk (Below.trod laidOut (by kernel_rfl) (of_decide_eq_true (by kernel_rfl)) k1 bel lt1) trodAll_mk0)), rfl, bel.frame _, fun h => by cases h⟩

theorem over : Rows.FourBytesSaid :=
  OpenClaim.holds_of_wide 4 Tryd.f4 rfl rfl rfl rfl rfl rfl rfl ⟨rfl, rfl, rfl, rfl, rfl⟩ rfl rfl rfl rfl rfl (by kernel_rfl) Tryd.func4 (by kernel_rfl)
    (of_decide_eq_true (by kernel_rfl)) (by unfold Func.isWrapper; first | (rw [if_pos (by decide +kernel)]; kernel_rfl) | (rw [if_neg (by decide +kernel)]; exact ⟨rfl, rfl⟩))
    (fun os started H enc _ => lifted os started H enc)


theorem proved : Rows.FourBytesCardSaid :=
  Claim7.holds_tied_plain_at .later [] [.data, .data, .data] true _ false
    over (fun _ h => by cases h) (by kernel_rfl) (fun _ h => by cases h) fourBytes_row_tie rfl ⟨rfl, rfl⟩ (by kernel_rfl) rfl
    (fun f fn hf hfn => by
      obtain rfl : f = 4 := Option.some.inj ((show Tryd.prog.funcNamed "abatis/abatislaw02.FourBytes" = some 4 by kernel_rfl).symm.trans hf) |>.symm
      obtain rfl : fn = Tryd.f4 := (Option.some.inj (Tryd.func4.symm.trans hfn)).symm
      exact ⟨by kernel_rfl, fun j t ht => by
        rw [Tryd.params4] at ht
        have hm : t ∈ [28, 28] := by simpa using Array.mem_of_getElem? ht
        have hall : ([28, 28].all fun u => !Tryd.prog.wantsStandIn u) = true := by kernel_rfl
        exact (show Tryd.prog.wantsStandIn t = false by simpa using List.all_eq_true.1 hall t hm)⟩)
    (by kernel_rfl)
#print axioms proved
end Go.Proofs.YtebcgfgfcjgdiaaDoor.fourBytes

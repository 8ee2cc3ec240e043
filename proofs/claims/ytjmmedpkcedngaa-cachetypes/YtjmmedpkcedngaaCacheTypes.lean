/- CacheTypes (P10.1, P10.2): one name may have entries of several types, each its own. -/
import Derived.Test.YtjmmedpkcedngaaB6
import Derived.Test.YtjmmedpkcedngaaRows
import Derived.ProofKit
import Derived.OpenShut
import Derived.ShutString
import Derived.ChangeOld
import Derived.Below
namespace Go.Proofs.Ytjmmedpkcedngaa.cacheTypes
open Go.ChangeShapes Go.WideShapes Go.ChangeAt Go.RowKit
open Go.ChangeMaps (open_string shut_string)
set_option linter.unusedVariables false
set_option maxRecDepth 20000

theorem own : ownKnob Try.prog.godebug = none := by kernel_rfl

set_option maxRecDepth 100000 in
set_option maxHeartbeats 4000000 in
theorem walk (s0 : ByteArray) (one two : Int) (zs : List Int) (hs : s0.size ≤ maxLen) (h1 : (Lit.int .i64 one).wf = true) (h2 : (Lit.int .i64 two).wf = true) (hl : zs.length = 2) (hz : ∀ z ∈ zs, (Lit.int .i64 z).wf = true) (w : World) :
    Calls Try.prog 7 #[.string s0, .int .i64 one, .int .i64 two, .agg (zs.map (Value.int .i64)).toArray] w fun e w' => e = .returned (.bool true) ∧ Below w.heap.size w w' := by
  obtain ⟨p, q, rfl⟩ : ∃ p q, zs = [p, q] := by
    match zs, hl with
    | [p, q], _ => exact ⟨p, q, rfl⟩
  have hp := hz p (by simp)
  have hq := hz q (by simp)
  have HFW := fun W => Lib.hid (few_any s0 20 W hs (by decide))
  have hfs := few_size s0 20
  obtain ⟨s, hs20⟩ : ∃ s, few s0 20 = s := ⟨_, rfl⟩
  rw [hs20] at HFW hfs
  have hsz : s.size ≤ 2000000 := by omega
  have HNW := fun W => Lib.hid (new_any 4 W)
  have hr : min (max (4 : Int) 1) 64 = 4 := by decide
  rw [hr] at HNW
  have HA1 := fun W => Lib.hid (around_any p 1000 W hp (by decide) (by decide))
  have HA2 := fun W => Lib.hid (around_any q 1000 W hq (by decide) (by decide))
  have hx := aroundN_lt p 1000 (by decide)
  have hy := aroundN_lt q 1000 (by decide)
  have HLV := fun W => Lib.hid (lives10_any W)
  generalize aroundN p 1000 = x at *
  generalize aroundN q 1000 = y at *
  have hwx : IntKind.i64.wrap (1 + (x : Int)) = 1 + (x : Int) := by rw [IntKind.wrap_i64]; omega
  have hwy : IntKind.i64.wrap (1 + (y : Int)) = 1 + (y : Int) := by rw [IntKind.wrap_i64]; omega
  have hmx : (0 : Int) + min (1 + (x : Int)) 604800 = 1 + (x : Int) := by omega
  have hmy : (0 : Int) + min (1 + (y : Int)) 604800 = 1 + (y : Int) := by omega
  have hwx1 : IntKind.i64.wrap (1 + (x : Int) - 1) = (x : Int) := by rw [IntKind.wrap_i64]; omega
  have hwy1 : IntKind.i64.wrap (1 + (y : Int) - 1) = (y : Int) := by rw [IntKind.wrap_i64]; omega
  obtain ⟨X, hX⟩ : ∃ X, lowB s = X := ⟨_, rfl⟩
  have HP1 : Hid (∀ G b W ad, CacAt W G b 4 [] → AdsIn W (some ad) 1 [((4 : Int), List.replicate 16 0)] → Calls Try.prog 17 #[.pointer (some ⟨G, 0, none⟩), .string s, .int .i64 one, .slice (some ad) 1 1, .int .i64 (1 + (x : Int)), .int .i64 0] W fun e w' => ∃ v a' c', e = .returned v ∧ CacAt w' G b 4 [⟨X, one, a', 1, c', 1 + (x : Int)⟩] ∧ AdsIn w' a' c' [((4 : Int), List.replicate 16 0)] ∧ W.grownBy w' (some b)) := Lib.hid (fun G b W ad hc ha => by
    refine (put_any G b 4 [] s one (1 + (x : Int)) 0 (some ad) 1 [((4 : Int), List.replicate 16 0)] W hc hsz h1 (by omega) (by decide) (by decide) ha (by decide)).mono ?_
    rintro e w' ⟨a', c', he, hc', ha', hg⟩
    rw [putC_first _ _ _ (by decide), hmx, hX] at hc'
    exact ⟨_, a', c', he, hc', ha', hg⟩)
  have HP2 : Hid (∀ G b W ad a1 c1, CacAt W G b 4 [⟨X, one, a1, 1, c1, 1 + (x : Int)⟩] → AdsIn W (some ad) 1 [((6 : Int), List.replicate 16 0)] → Calls Try.prog 17 #[.pointer (some ⟨G, 0, none⟩), .string s, .int .i64 two, .slice (some ad) 1 1, .int .i64 (1 + (y : Int)), .int .i64 0] W fun e w' => ∃ v a' c' es, e = .returned v ∧ CacAt w' G b 4 es ∧ getE es X two = some ⟨X, two, a', 1, c', 1 + (y : Int)⟩ ∧ (one = two → es.length = 1) ∧ (one ≠ two → es.length = 2 ∧ getE es X one = some ⟨X, one, a1, 1, c1, 1 + (x : Int)⟩) ∧ AdsIn w' a' c' [((6 : Int), List.replicate 16 0)] ∧ W.grownBy w' (some b)) := Lib.hid (fun G b W ad a1 c1 hc ha => by
    refine (put_any G b 4 [⟨X, one, a1, 1, c1, 1 + (x : Int)⟩] s two (1 + (y : Int)) 0 (some ad) 1 [((6 : Int), List.replicate 16 0)] W hc hsz h2 (by omega) (by decide) (by decide) ha (by decide)).mono ?_
    rintro e w' ⟨a', c', he, hc', ha', hg⟩
    rw [hmy, hX] at hc'
    refine ⟨_, a', c', _, he, hc', ?_, ?_, ?_, ha', hg⟩
    · by_cases e12 : one = two
      · subst e12
        rw [put_same] at hc' ⊢
        exact getE_mem hc'.so.apart (by simp) rfl
      · refine getE_mem hc'.so.apart ((put_other 4 (by decide) X one two e12 a1 a' 1 1 c1 c' _ _ 0).mem_iff.2 (by simp)) rfl
    · intro e12
      subst e12
      rw [put_same]
      rfl
    · intro e12
      have hpm := put_other 4 (by decide) X one two e12 a1 a' 1 1 c1 c' (1 + (x : Int)) (1 + (y : Int)) 0
      exact ⟨hpm.length_eq, getE_mem hc'.so.apart (hpm.mem_iff.2 (by simp)) rfl⟩)
  obtain ⟨bW, hbW⟩ : ∃ bW, w.alloc (.cells #[.int .i64 p, .int .i64 q] 64) = bW := ⟨_, rfl⟩
  have HB0 : Hid (Below w.heap.size w bW) := Lib.hid (by rw [← hbW]; exact (Below.refl _ _).alloc (Nat.le_refl _) _)
  have HC0 : Hid (CellsAt bW w.heap.size [.int .i64 p, .int .i64 q]) := Lib.hid (by rw [← hbW]; exact CellsAt.new w 64 [.int .i64 p, .int .i64 q])
  have HK0 : Hid ((bW.cell? ⟨w.heap.size, 0, none⟩ = some (.int .i64 p)) ∧ (bW.cell? ⟨w.heap.size, 1, none⟩ = some (.int .i64 q))) := Lib.hid ⟨HC0.out.cell 0 _ rfl, HC0.out.cell 1 _ rfl⟩
  clear hs hs20 hfs hl hz
  go_enter Try.func7, Try.ntmps7
  go_upto_region 1 with fail
  first | rw [hbW] | skip
  clear hbW
  go_wp2_with fail
  refine (HFW _).out.mono ?_
  rintro e w1 ⟨rfl, rfl⟩
  clear HFW
  go_wp2_with fail
  refine (HNW _).out.mono ?_
  rintro e w2 ⟨G, b, rfl, hc2, hG2, hb2, hbl2⟩
  have HGB : Hid (w.heap.size ≤ b) := Lib.hid (Nat.le_trans HB0.out.size hb2)
  have HC2 := Lib.hid (HC0.out.below hbl2)
  have HB2 := Lib.hid (chain HB0.out hbl2)
  have HA2' := Lib.hid hc2
  clear HNW hc2 hG2 hb2 hbl2 HC0 HB0 HK0
  have HZ := Lib.hid (addr_zeroed w2)
  have HBL := Lib.hid HA2'.out.lt.2
  have h16 : (List.replicate 16 0 : List Nat).length = 16 := rfl
  go_upto_region 6 with (first | refine build_fam rfl _ rfl rfl ?_ | refine store_addr HZ _ _ (Lib.hid h16) rfl rfl rfl rfl (fun W3 HW3 HO3 => ?_))
  have hb3 : Below w2.heap.size w2 W3 := below_newA HW3
  have HC3 := Lib.hid (HC2.out.below hb3)
  have HB3 := Lib.hid (chain HB2.out hb3)
  have HA3 := Lib.hid (HA2'.out.below hb3)
  have HR3 : Hid (w2.heap.size < W3.heap.size ∧ W3.rangeAt w2.heap.size 0 (adL ((4 : Int), List.replicate 16 0)) ∧ some w2.heap.size ≠ some b) := Lib.hid ⟨HO3.out.lt, HO3.out.range, fun e => by injection e with e; have := HBL.out; omega⟩
  generalize w2.heap.size = P10 at *
  clear hb3 HC2 HB2 HA2' HZ HW3 HO3 HBL
  have HZ := Lib.hid (addr_zeroed W3)
  have HBL := Lib.hid HA3.out.lt.2
  go_upto_region 7 with (first | refine build_fam rfl _ rfl rfl ?_ | refine store_addr HZ _ _ (Lib.hid h16) rfl rfl rfl rfl (fun W4 HW4 HO4 => ?_))
  have hb4 : Below W3.heap.size W3 W4 := below_newA HW4
  have HC4 := Lib.hid (HC3.out.below hb4)
  have HB4 := Lib.hid (chain HB3.out hb4)
  have HA4 := Lib.hid (HA3.out.below hb4)
  have HR4 : Hid (P10 < W4.heap.size ∧ W4.rangeAt P10 0 (adL ((4 : Int), List.replicate 16 0)) ∧ some P10 ≠ some b) := Lib.hid ⟨Nat.lt_of_lt_of_le HR3.out.1 hb4.size, range_belowC HR3.out.2.1 hb4 HR3.out.1, HR3.out.2.2⟩
  have HQ4 : Hid (W3.heap.size < W4.heap.size ∧ W4.rangeAt W3.heap.size 0 (adL ((6 : Int), List.replicate 16 0)) ∧ some W3.heap.size ≠ some b) := Lib.hid ⟨HO4.out.lt, HO4.out.range, fun e => by injection e with e; have := HBL.out; omega⟩
  have HK4 : Hid ((W4.cell? ⟨w.heap.size, 0, none⟩ = some (.int .i64 p)) ∧ (W4.cell? ⟨w.heap.size, 1, none⟩ = some (.int .i64 q))) := Lib.hid ⟨HC4.out.cell 0 _ rfl, HC4.out.cell 1 _ rfl⟩
  generalize W3.heap.size = P11 at *
  clear hb4 HC3 HB3 HA3 HR3 HZ HW4 HO4 HBL
  have hk0 := HK4.out.1
  have hk1 := HK4.out.2
  go_wp2_with fail
  refine (HA1 _).out.mono ?_
  rintro e w5 ⟨rfl, rfl⟩
  clear HA1
  go_wp2_with fail
  refine (HA2 _).out.mono ?_
  rintro e w6 ⟨rfl, rfl⟩
  clear HA2 hk0 hk1 HK4 HC4
  have HRA4 := Lib.hid HR4.out.2.1
  go_wp2_with (first | refine load_ad (r := ((4 : Int), List.replicate 16 0)) (Lib.hid h16) HRA4 _ rfl rfl rfl ?_ | (refine build_adS (r := ((4 : Int), List.replicate 16 0)) h16 rfl _ rfl rfl (fun W5 ad5 HAD5 hb5 => ?_)))
  refine (HP1.out G b W5 ad5 (HA4.out.below hb5.out) HAD5.out).mono ?_
  rintro e w6 ⟨v6, a6, c6, rfl, hc6, had6, hg6⟩
  have HA6 := Lib.hid hc6
  have HAD6 := Lib.hid had6
  have HB6 := Lib.hid (Below.cacheOp (chain HB4.out hb5.out) hg6 HGB.out (chain HB4.out hb5.out).size)
  have HR6 : Hid (P10 < w6.heap.size ∧ w6.rangeAt P10 0 (adL ((4 : Int), List.replicate 16 0)) ∧ some P10 ≠ some b) := Lib.hid ⟨Nat.lt_of_lt_of_le HR4.out.1 (Nat.le_trans hb5.out.size hg6.size), range_farC (range_belowC HR4.out.2.1 hb5.out HR4.out.1) hg6 (Nat.lt_of_lt_of_le HR4.out.1 hb5.out.size) HR4.out.2.2, HR4.out.2.2⟩
  have HQ6 : Hid (P11 < w6.heap.size ∧ w6.rangeAt P11 0 (adL ((6 : Int), List.replicate 16 0)) ∧ some P11 ≠ some b) := Lib.hid ⟨Nat.lt_of_lt_of_le HQ4.out.1 (Nat.le_trans hb5.out.size hg6.size), range_farC (range_belowC HQ4.out.2.1 hb5.out HQ4.out.1) hg6 (Nat.lt_of_lt_of_le HQ4.out.1 hb5.out.size) HQ4.out.2.2, HQ4.out.2.2⟩
  clear hc6 had6 hg6 hb5 HAD5 HR4 HQ4 HA4 HB4 HRA4 HP1
  have HRA6 := Lib.hid HQ6.out.2.1
  go_wp2_with (first | refine load_ad (r := ((6 : Int), List.replicate 16 0)) (Lib.hid h16) HRA6 _ rfl rfl rfl ?_ | (refine build_adS (r := ((6 : Int), List.replicate 16 0)) h16 rfl _ rfl rfl (fun W7 ad7 HAD7 hb7 => ?_)))
  refine (HP2.out G b W7 ad7 a6 c6 (HA6.out.below hb7.out) HAD7.out).mono ?_
  rintro e w8 ⟨v8, a8, c8, es, rfl, hc8, hg2, hl1, hl2, had8, hg8⟩
  have HA8 := Lib.hid hc8
  have HAD8 := Lib.hid had8
  have HAD8' := Lib.hid ((HAD6.out.below hb7.out).grown hg8 (HA6.out.below hb7.out).mp.block)
  have HE8 : Hid (getE es X two = some ⟨X, two, a8, 1, c8, 1 + (y : Int)⟩ ∧ (one = two → es.length = 1) ∧ (one ≠ two → es.length = 2 ∧ getE es X one = some ⟨X, one, a6, 1, c6, 1 + (x : Int)⟩)) := Lib.hid ⟨hg2, hl1, hl2⟩
  have HB8 := Lib.hid (Below.cacheOp (chain HB6.out hb7.out) hg8 HGB.out (chain HB6.out hb7.out).size)
  have HR8 : Hid (P10 < w8.heap.size ∧ w8.rangeAt P10 0 (adL ((4 : Int), List.replicate 16 0))) := Lib.hid ⟨Nat.lt_of_lt_of_le HR6.out.1 (Nat.le_trans hb7.out.size hg8.size), range_farC (range_belowC HR6.out.2.1 hb7.out HR6.out.1) hg8 (Nat.lt_of_lt_of_le HR6.out.1 hb7.out.size) HR6.out.2.2⟩
  have HQ8 : Hid (P11 < w8.heap.size ∧ w8.rangeAt P11 0 (adL ((6 : Int), List.replicate 16 0))) := Lib.hid ⟨Nat.lt_of_lt_of_le HQ6.out.1 (Nat.le_trans hb7.out.size hg8.size), range_farC (range_belowC HQ6.out.2.1 hb7.out HQ6.out.1) hg8 (Nat.lt_of_lt_of_le HQ6.out.1 hb7.out.size) HQ6.out.2.2⟩
  clear hc8 had8 hg8 hb7 HAD7 HR6 HQ6 HA6 HB6 HRA6 HP2 HAD6 hg2 hl1 hl2
  have HG2 := Lib.hid (get_any G b 4 es s two (y : Int) w8 HA8.out hsz h2 [((6 : Int), List.replicate 16 0)] (by rw [hX, HE8.out.1]; rintro e he; cases he; exact ⟨rfl, HAD8.out⟩) (by decide))
  rw [hX] at HG2
  have HT2 : Hid ((theE es X two).u = 1 + (y : Int) ∧ (getE es X two).isSome = true) := Lib.hid ⟨by unfold theE; rw [HE8.out.1]; rfl, by rw [HE8.out.1]; rfl⟩
  go_wp2_with fail
  refine HG2.out.mono ?_
  rintro e w9 ⟨hgot, hb9⟩
  have HB9 := Lib.hid (chain HB8.out hb9)
  have HA9 := Lib.hid (HA8.out.below hb9)
  have HAD9 := Lib.hid (HAD8.out.below hb9)
  have HAD9' := Lib.hid (HAD8'.out.below hb9)
  obtain ⟨r6, hr6⟩ : ∃ r : Ad, ((6 : Int), List.replicate 16 0) = r := ⟨_, rfl⟩
  obtain ⟨r4, hr4⟩ : ∃ r : Ad, ((4 : Int), List.replicate 16 0) = r := ⟨_, rfl⟩
  have H6 : Hid (r6.2.length = 16) := Lib.hid (by rw [← hr6]; rfl)
  have H4 : Hid (r4.2.length = 16) := Lib.hid (by rw [← hr4]; rfl)
  have HR9 : Hid (P10 < w9.heap.size ∧ w9.rangeAt P10 0 (adL r4)) := Lib.hid ⟨Nat.lt_of_lt_of_le HR8.out.1 hb9.size, by rw [← hr4]; exact range_belowC HR8.out.2 hb9 HR8.out.1⟩
  have HQ9 : Hid (P11 < w9.heap.size ∧ w9.rangeAt P11 0 (adL r6)) := Lib.hid ⟨Nat.lt_of_lt_of_le HQ8.out.1 hb9.size, by rw [← hr6]; exact range_belowC HQ8.out.2 hb9 HQ8.out.1⟩
  rw [hr6] at HAD9 hgot
  rw [hr4] at HAD9'
  clear HB8 HA8 HAD8 HAD8' HR8 HQ8 hr6 hr4 HG2
  rcases hgot with ⟨h, he⟩ | ⟨_, _, v9, rfl, hr9⟩
  · exfalso
    rw [HT2.out.1, HT2.out.2] at h
    rcases h with h | h
    · cases h
    · omega
  rcases hr9.form with ⟨_, h⟩ | ⟨g, cap, rfl, hg1, hg2, hcap1, hcap2, hrg⟩
  · cases h
  have hrg6 : w9.rangeAt g 0 (adL r6) := by
    have e : flatA [r6] = adL r6 := by simp [flatA]
    rw [← e]; exact hrg
  obtain ⟨S, hS⟩ : ∃ S : World → Prop, (fun W => W.rangeAt g 0 (adL r6) ∧ W.rangeAt P11 0 (adL r6)) = S := ⟨_, rfl⟩
  have C1 : Hid (∀ w', S w' → w'.rangeAt g 0 (adL r6)) := Lib.hid (fun w' h => by rw [← hS] at h; exact h.1)
  have C2 : Hid (∀ w', S w' → w'.rangeAt P11 0 (adL r6)) := Lib.hid (fun w' h => by rw [← hS] at h; exact h.2)
  have HSS : Hid (S w9.drew) := Lib.hid (by rw [← hS]; exact ⟨hrg6, HQ9.out.2⟩)
  have q1 := fun W => run_neq_ad r6 r6 W H6.out H6.out
  rw [decide_eq_true (show r6 = r6 from rfl)] at q1
  have gd := guard_ad
  have hlen1 : [r6].length = 1 := rfl
  rw [hlen1] at hcap1 ⊢
  clear hS hrg hrg6 hg1 hg2 hr9 hb9
  go_upto_region 12 with fail
  refine wp_region_noPanic ?_
  refine wp_region_held_drew (S := S) (by kernel_rfl) HSS.out (fun hHeld => ?_)
  refine wpAnyH_take (i := 0) (v := ?_) rfl (by kernel_rfl) (by kernel_rfl) (by kernel_rfl) (fun _ _ _ h => h) (Or.inl ⟨by rfl, ?_⟩) (by assumption) ?_
  rotate_left
  · (intro w hSw; go_simp; try (with_reducible rfl))
  try simp only [Act.put, List.getElem_toArray, List.getElem_cons_zero, List.setIfInBounds_toArray, List.set_cons_zero, List.set_cons_succ]
  refine wpAnyH_take (i := 1) (v := ?_) rfl (by kernel_rfl) (by kernel_rfl) (by kernel_rfl) (fun _ _ _ h => h) (Or.inl ⟨by rfl, ?_⟩) (by assumption) ?_
  rotate_left
  · (intro w hSw; go_simp; try (with_reducible rfl))
  try simp only [Act.put, List.getElem_toArray, List.getElem_cons_zero, List.getElem_cons_succ, List.setIfInBounds_toArray, List.set_cons_zero, List.set_cons_succ]
  refine wpAnyH_take (i := 2) (v := ?_) rfl (by kernel_rfl) (by kernel_rfl) (by kernel_rfl) (fun _ _ _ h => h) (Or.inl ⟨by rfl, ?_⟩) (by assumption) ?_
  rotate_left
  · (intro w hSw; go_simp; try (with_reducible rfl))
  try simp only [Act.put, List.getElem_toArray, List.getElem_cons_zero, List.getElem_cons_succ, List.setIfInBounds_toArray, List.set_cons_zero, List.set_cons_succ]
  refine wpAnyH_take (i := 3) (v := ?_) rfl (by kernel_rfl) (by kernel_rfl) (by kernel_rfl) (fun _ _ _ h => h) (Or.inl ⟨by rfl, ?_⟩) (by assumption) ?_
  rotate_left
  · (intro w hSw; go_simp; try (with_reducible rfl))
  try simp only [Act.put, List.getElem_toArray, List.getElem_cons_zero, List.getElem_cons_succ, List.setIfInBounds_toArray, List.set_cons_zero, List.set_cons_succ]
  refine wpAnyH_take (i := 4) (v := ?_) rfl (by kernel_rfl) (by kernel_rfl) (by kernel_rfl) (fun _ _ _ h => h) (Or.inl ⟨by rfl, ?_⟩) (by assumption) ?_
  rotate_left
  · (intro w hSw; go_simp; try (with_reducible rfl))
  try simp only [Act.put, List.getElem_toArray, List.getElem_cons_zero, List.getElem_cons_succ, List.setIfInBounds_toArray, List.set_cons_zero, List.set_cons_succ]
  refine wpAnyH_take (i := 5) (v := ?_) rfl (by kernel_rfl) (by kernel_rfl) (by kernel_rfl) (fun _ _ _ h => h) (Or.inl ⟨by rfl, ?_⟩) (by assumption) ?_
  rotate_left
  · (intro w hSw; go_simp; try (with_reducible rfl))
  try simp only [Act.put, List.getElem_toArray, List.getElem_cons_zero, List.getElem_cons_succ, List.setIfInBounds_toArray, List.set_cons_zero, List.set_cons_succ]
  refine wpAnyH_take (i := 6) (v := ?_) rfl (by kernel_rfl) (by kernel_rfl) (by kernel_rfl) (fun _ _ _ h => h) (Or.inl ⟨by rfl, ?_⟩) (by assumption) ?_
  rotate_left
  · (intro w hSw; go_simp; try (with_reducible rfl))
  try simp only [Act.put, List.getElem_toArray, List.getElem_cons_zero, List.getElem_cons_succ, List.setIfInBounds_toArray, List.set_cons_zero, List.set_cons_succ]
  refine wpAnyH_take (i := 7) (v := ?_) rfl (by kernel_rfl) (by kernel_rfl) (by kernel_rfl) (fun _ _ _ h => h) (Or.inl ⟨by rfl, ?_⟩) (by assumption) ?_
  rotate_left
  · (intro w hSw; go_simp; try (with_reducible rfl))
  try simp only [Act.put, List.getElem_toArray, List.getElem_cons_zero, List.getElem_cons_succ, List.setIfInBounds_toArray, List.set_cons_zero, List.set_cons_succ]
  refine wpAnyH_take (i := 8) (v := ?_) rfl (by kernel_rfl) (by kernel_rfl) (by kernel_rfl) (fun _ _ _ h => h) (Or.inl ⟨by rfl, ?_⟩) (by assumption) ?_
  rotate_left
  · (intro w hSw; go_simp; try (with_reducible rfl))
  try simp only [Act.put, List.getElem_toArray, List.getElem_cons_zero, List.getElem_cons_succ, List.setIfInBounds_toArray, List.set_cons_zero, List.set_cons_succ]
  refine wpAnyH_take (i := 9) (v := ?_) rfl (by kernel_rfl) (by kernel_rfl) (by kernel_rfl) (fun _ _ _ h => h) (Or.inl ⟨by rfl, ?_⟩) (by assumption) ?_
  rotate_left
  · (intro w hSw; go_simp; try (with_reducible rfl))
  try simp only [Act.put, List.getElem_toArray, List.getElem_cons_zero, List.getElem_cons_succ, List.setIfInBounds_toArray, List.set_cons_zero, List.set_cons_succ]
  refine wpAnyH_take (i := 10) rfl (by kernel_rfl) (by kernel_rfl) (by kernel_rfl) (fun _ _ _ h => h) (yields_ad H6 C1 (by rfl) _ rfl rfl) (by assumption) ?_
  try simp only [Act.put, List.getElem_toArray, List.getElem_cons_zero, List.getElem_cons_succ, List.setIfInBounds_toArray, List.set_cons_zero, List.set_cons_succ]
  refine wpAnyH_take (i := 11) rfl (by kernel_rfl) (by kernel_rfl) (by kernel_rfl) (fun _ _ _ h => h) (yields_ad H6 C2 (by rfl) _ rfl rfl) (by assumption) ?_
  try simp only [Act.put, List.getElem_toArray, List.getElem_cons_zero, List.getElem_cons_succ, List.setIfInBounds_toArray, List.set_cons_zero, List.set_cons_succ]
  refine wpAnyH_take (i := 12) (v := ?_) rfl (by kernel_rfl) (by kernel_rfl) (by kernel_rfl) (fun _ _ _ h => h) (Or.inl ⟨by rfl, ?_⟩) (by assumption) ?_
  rotate_left
  · (intro w hSw; go_simp; try (with_reducible rfl))
  try simp only [Act.put, List.getElem_toArray, List.getElem_cons_zero, List.getElem_cons_succ, List.setIfInBounds_toArray, List.set_cons_zero, List.set_cons_succ]
  refine wpAnyH_take (i := 13) (v := ?_) rfl (by kernel_rfl) (by kernel_rfl) (by kernel_rfl) (fun _ _ _ h => h) (Or.inl ⟨by rfl, ?_⟩) (by assumption) ?_
  rotate_left
  · (intro w hSw; go_simp; try (with_reducible rfl))
  try simp only [Act.put, List.getElem_toArray, List.getElem_cons_zero, List.getElem_cons_succ, List.setIfInBounds_toArray, List.set_cons_zero, List.set_cons_succ]
  refine wpAnyH_done (by kernel_rfl) ?_ _
  refine NoPanic.normal ?_
  clear q1 C1 C2 HSS hHeld
  have HBD := Lib.hid HB9.out.drew
  have HLEN := Lib.hid (fun W (hc : CacAt W G b 4 es) => len_any G b 4 es W hc)
  have HD9 : Hid (Below w9.heap.size w9 w9.drew) := Lib.hid (Below.refl _ _).drew
  have HA9d := Lib.hid (HA9.out.below HD9.out)
  have HR9d : Hid (w9.drew.rangeAt P10 0 (adL r4)) := Lib.hid (range_belowC HR9.out.2 HD9.out HR9.out.1)
  have hP10 : P10 < w9.drew.heap.size := HR9.out.1
  by_cases h12 : one = two
  · subst h12
    have HG1 := Lib.hid (get_any G b 4 es s one (x : Int) w9.drew HA9d.out hsz h1 [r6] (by rw [hX, HE8.out.1]; rintro e he; cases he; exact ⟨rfl, HAD9.out.below HD9.out⟩) (by show 1 ≤ 1000; decide))
    rw [hX] at HG1
    have hq1 : (one == one) = true := by simp
    have hq2 : decide (one = one) = true := by simp
    have hl1 := HE8.out.2.1 rfl
    rw [hl1] at HLEN
    go_wp2_with fail
    refine HG1.out.mono ?_
    rintro e w10 ⟨hgot, hb10⟩
    have HB10 := Lib.hid (chain HBD.out hb10)
    have HL10 := Lib.hid (HLEN.out w10 (HA9d.out.below hb10))
    rcases hgot with ⟨h, rfl⟩ | ⟨_, h, v10, rfl, hr10⟩
    · rw [HT2.out.1, HT2.out.2] at h
      have hle : decide (1 + (x : Int) ≤ 1 + (y : Int)) = false := decide_eq_false (by rcases h with h | h; cases h; omega)
      have hle2 : decide (x ≤ y) = false := decide_eq_false (by rcases h with h | h; cases h; omega)
      clear h hb10 HG1
      go_wp2_with fail
      refine HL10.out.mono ?_
      rintro e w11 ⟨rfl, rfl⟩
      clear HL10
      go_wp2_with fail
      refine (HLV _).out.mono ?_
      rintro e w12 ⟨rfl, hb12⟩
      have HB12 := Lib.hid (chain HB10.out hb12)
      clear hb12 HLV
      go_wp2_with fail
      go_ret
      exact ⟨rfl, HB12.out⟩
    · rw [HT2.out.1] at h
      have hle : decide (1 + (x : Int) ≤ 1 + (y : Int)) = true := decide_eq_true (by omega)
      have hle2 : decide (x ≤ y) = true := decide_eq_true (by omega)
      obtain ⟨a10, c10, rfl, _⟩ := hr10.ads
      clear h hb10 HG1 hr10
      go_wp2_with fail
      refine HL10.out.mono ?_
      rintro e w11 ⟨rfl, rfl⟩
      clear HL10
      go_wp2_with fail
      refine (HLV _).out.mono ?_
      rintro e w12 ⟨rfl, hb12⟩
      have HB12 := Lib.hid (chain HB10.out hb12)
      clear hb12 HLV
      go_wp2_with fail
      go_ret
      exact ⟨rfl, HB12.out⟩
  · have HG1 := Lib.hid (get_any G b 4 es s one (x : Int) w9.drew HA9d.out hsz h1 [r4] (by rw [hX, (HE8.out.2.2 h12).2]; rintro e he; cases he; exact ⟨rfl, HAD9'.out.below HD9.out⟩) (by show 1 ≤ 1000; decide))
    rw [hX] at HG1
    have HT1 : Hid ((theE es X one).u = 1 + (x : Int) ∧ (getE es X one).isSome = true) := Lib.hid ⟨by unfold theE; rw [(HE8.out.2.2 h12).2]; rfl, by rw [(HE8.out.2.2 h12).2]; rfl⟩
    have hq1 : (one == two) = false := by simpa using h12
    have hq2 : decide (one = two) = false := decide_eq_false h12
    have hl1 := (HE8.out.2.2 h12).1
    rw [hl1] at HLEN
    go_wp2_with fail
    refine HG1.out.mono ?_
    rintro e w10 ⟨hgot, hb10⟩
    have HB10 := Lib.hid (chain HBD.out hb10)
    have HR10 : Hid (w10.rangeAt P10 0 (adL r4)) := Lib.hid (range_belowC HR9d.out hb10 hP10)
    have hP10' : P10 < w10.heap.size := Nat.lt_of_lt_of_le hP10 hb10.size
    have HA10 := Lib.hid (HA9d.out.below hb10)
    rcases hgot with ⟨h, _⟩ | ⟨_, h, v10, rfl, hr10⟩
    · exfalso
      rw [HT1.out.1, HT1.out.2] at h
      rcases h with h | h
      · cases h
      · omega
    rcases hr10.form with ⟨_, h⟩ | ⟨g2, cap2, rfl, hg1, hg2, hcap21, hcap22, hrg⟩
    · cases h
    have hrg4 : w10.rangeAt g2 0 (adL r4) := by
      have e : flatA [r4] = adL r4 := by simp [flatA]
      rw [← e]; exact hrg
    obtain ⟨S, hS⟩ : ∃ S : World → Prop, (fun W => Below w10.heap.size w10 W) = S := ⟨_, rfl⟩
    have C1 : Hid (∀ w', S w' → w'.rangeAt g2 0 (adL r4)) := Lib.hid (fun w' h => by rw [← hS] at h; exact range_belowC hrg4 h hg2)
    have C2 : Hid (∀ w', S w' → w'.rangeAt P10 0 (adL r4)) := Lib.hid (fun w' h => by rw [← hS] at h; exact range_belowC HR10.out h hP10')
    have HSS : Hid (S w10.drew) := Lib.hid (by rw [← hS]; exact (Below.refl _ _).drew)
    have HKL : ∀ W, S W → Hid (Calls Try.prog 13 #[.pointer (some ⟨G, 0, none⟩)] W fun e w' => e = .returned (.int .i64 ((2 : Nat) : Int)) ∧ S w') := fun W h => Lib.hid ((HLEN.out W (HA10.out.below (by rw [← hS] at h; exact h))).mono (by rintro e w' ⟨rfl, rfl⟩; exact ⟨rfl, h⟩))
    have HKV : ∀ W, S W → Hid (Calls Try.prog 15 #[] W fun e w' => e = .returned (.bool true) ∧ S w') := fun W h => Lib.hid ((HLV W).out.mono (by rintro e w' ⟨rfl, hb⟩; exact ⟨rfl, by rw [← hS] at h ⊢; exact chain h hb⟩))
    have HFIN : Hid (∀ W, S W → Below w.heap.size w W) := Lib.hid (fun W h => by rw [← hS] at h; exact chain HB10.out h)
    have q1 := fun W => run_eq_addr r4.1 r4.1 r4.2 r4.2 W H4.out H4.out
    rw [decide_eq_true (show r4.1 = r4.1 ∧ r4.2 = r4.2 from ⟨rfl, rfl⟩)] at q1
    have hlen4 : [r4].length = 1 := rfl
    rw [hlen4] at hcap21 ⊢
    clear hS hrg hrg4 hg1 hg2 hr10 hb10 HG1 HLEN
    go_upto_region 17 with fail
    refine wp_region_noPanic ?_
    refine wp_region_held_drew (S := S) (by kernel_rfl) HSS.out (fun hHeld => ?_)
    refine wpAnyH_take (i := 0) (v := ?_) rfl (by kernel_rfl) (by kernel_rfl) (by kernel_rfl) (fun _ _ _ h => h) (Or.inl ⟨by rfl, ?_⟩) (by assumption) ?_
    rotate_left
    · (intro w hSw; go_simp; try (with_reducible rfl))
    try simp only [Act.put, List.getElem_toArray, List.getElem_cons_zero, List.setIfInBounds_toArray, List.set_cons_zero, List.set_cons_succ]
    refine wpAnyH_ready (rs := [1]) (by kernel_rfl) (by simp) ?_
    refine AllReadyH.cons rfl (fun K hK => ?_) AllReadyH.nil
    go_simp
    refine (HKL _ (by assumption)).out.mono ?_
    rintro e wr1 ⟨rfl, hS1⟩
    go_wp2_with fail
    refine hK.out _ _ hS1 (fun hHeld => ?_)
    clear hK K
    try simp only [Act.put, List.getElem_toArray, List.getElem_cons_zero, List.getElem_cons_succ, List.setIfInBounds_toArray, List.set_cons_zero, List.set_cons_succ]
    refine wpAnyH_take (i := 2) (v := ?_) rfl (by kernel_rfl) (by kernel_rfl) (by kernel_rfl) (fun _ _ _ h => h) (Or.inl ⟨by rfl, ?_⟩) (by assumption) ?_
    rotate_left
    · (intro w hSw; go_simp; try (with_reducible rfl))
    try simp only [Act.put, List.getElem_toArray, List.getElem_cons_zero, List.getElem_cons_succ, List.setIfInBounds_toArray, List.set_cons_zero, List.set_cons_succ]
    refine wpAnyH_take (i := 3) (v := ?_) rfl (by kernel_rfl) (by kernel_rfl) (by kernel_rfl) (fun _ _ _ h => h) (Or.inl ⟨by rfl, ?_⟩) (by assumption) ?_
    rotate_left
    · (intro w hSw; go_simp; try (with_reducible rfl))
    try simp only [Act.put, List.getElem_toArray, List.getElem_cons_zero, List.getElem_cons_succ, List.setIfInBounds_toArray, List.set_cons_zero, List.set_cons_succ]
    refine wpAnyH_take (i := 4) (v := ?_) rfl (by kernel_rfl) (by kernel_rfl) (by kernel_rfl) (fun _ _ _ h => h) (Or.inl ⟨by rfl, ?_⟩) (by assumption) ?_
    rotate_left
    · (intro w hSw; go_simp; try (with_reducible rfl))
    try simp only [Act.put, List.getElem_toArray, List.getElem_cons_zero, List.getElem_cons_succ, List.setIfInBounds_toArray, List.set_cons_zero, List.set_cons_succ]
    refine wpAnyH_take (i := 5) (v := ?_) rfl (by kernel_rfl) (by kernel_rfl) (by kernel_rfl) (fun _ _ _ h => h) (Or.inl ⟨by rfl, ?_⟩) (by assumption) ?_
    rotate_left
    · (intro w hSw; go_simp; try (with_reducible rfl))
    try simp only [Act.put, List.getElem_toArray, List.getElem_cons_zero, List.getElem_cons_succ, List.setIfInBounds_toArray, List.set_cons_zero, List.set_cons_succ]
    refine wpAnyH_take (i := 6) (v := ?_) rfl (by kernel_rfl) (by kernel_rfl) (by kernel_rfl) (fun _ _ _ h => h) (Or.inl ⟨by rfl, ?_⟩) (by assumption) ?_
    rotate_left
    · (intro w hSw; go_simp; try (with_reducible rfl))
    try simp only [Act.put, List.getElem_toArray, List.getElem_cons_zero, List.getElem_cons_succ, List.setIfInBounds_toArray, List.set_cons_zero, List.set_cons_succ]
    refine wpAnyH_take (i := 7) (v := ?_) rfl (by kernel_rfl) (by kernel_rfl) (by kernel_rfl) (fun _ _ _ h => h) (Or.inl ⟨by rfl, ?_⟩) (by assumption) ?_
    rotate_left
    · (intro w hSw; go_simp; try (with_reducible rfl))
    try simp only [Act.put, List.getElem_toArray, List.getElem_cons_zero, List.getElem_cons_succ, List.setIfInBounds_toArray, List.set_cons_zero, List.set_cons_succ]
    refine wpAnyH_take (i := 8) (v := ?_) rfl (by kernel_rfl) (by kernel_rfl) (by kernel_rfl) (fun _ _ _ h => h) (Or.inl ⟨by rfl, ?_⟩) (by assumption) ?_
    rotate_left
    · (intro w hSw; go_simp; try (with_reducible rfl))
    try simp only [Act.put, List.getElem_toArray, List.getElem_cons_zero, List.getElem_cons_succ, List.setIfInBounds_toArray, List.set_cons_zero, List.set_cons_succ]
    refine wpAnyH_take (i := 9) (v := ?_) rfl (by kernel_rfl) (by kernel_rfl) (by kernel_rfl) (fun _ _ _ h => h) (Or.inl ⟨by rfl, ?_⟩) (by assumption) ?_
    rotate_left
    · (intro w hSw; go_simp; try (with_reducible rfl))
    try simp only [Act.put, List.getElem_toArray, List.getElem_cons_zero, List.getElem_cons_succ, List.setIfInBounds_toArray, List.set_cons_zero, List.set_cons_succ]
    refine wpAnyH_take (i := 10) (v := ?_) rfl (by kernel_rfl) (by kernel_rfl) (by kernel_rfl) (fun _ _ _ h => h) (Or.inl ⟨by rfl, ?_⟩) (by assumption) ?_
    rotate_left
    · (intro w hSw; go_simp; try (with_reducible rfl))
    try simp only [Act.put, List.getElem_toArray, List.getElem_cons_zero, List.getElem_cons_succ, List.setIfInBounds_toArray, List.set_cons_zero, List.set_cons_succ]
    refine wpAnyH_take (i := 11) (v := ?_) rfl (by kernel_rfl) (by kernel_rfl) (by kernel_rfl) (fun _ _ _ h => h) (Or.inl ⟨by rfl, ?_⟩) (by assumption) ?_
    rotate_left
    · (intro w hSw; go_simp; try (with_reducible rfl))
    try simp only [Act.put, List.getElem_toArray, List.getElem_cons_zero, List.getElem_cons_succ, List.setIfInBounds_toArray, List.set_cons_zero, List.set_cons_succ]
    refine wpAnyH_take (i := 12) (v := ?_) rfl (by kernel_rfl) (by kernel_rfl) (by kernel_rfl) (fun _ _ _ h => h) (Or.inl ⟨by rfl, ?_⟩) (by assumption) ?_
    rotate_left
    · (intro w hSw; go_simp; try (with_reducible rfl))
    try simp only [Act.put, List.getElem_toArray, List.getElem_cons_zero, List.getElem_cons_succ, List.setIfInBounds_toArray, List.set_cons_zero, List.set_cons_succ]
    refine wpAnyH_take (i := 13) (v := ?_) rfl (by kernel_rfl) (by kernel_rfl) (by kernel_rfl) (fun _ _ _ h => h) (Or.inl ⟨by rfl, ?_⟩) (by assumption) ?_
    rotate_left
    · (intro w hSw; go_simp; try (with_reducible rfl))
    try simp only [Act.put, List.getElem_toArray, List.getElem_cons_zero, List.getElem_cons_succ, List.setIfInBounds_toArray, List.set_cons_zero, List.set_cons_succ]
    refine wpAnyH_take (i := 14) rfl (by kernel_rfl) (by kernel_rfl) (by kernel_rfl) (fun _ _ _ h => h) (yields_ad H4 C1 (by rfl) _ rfl rfl) (by assumption) ?_
    try simp only [Act.put, List.getElem_toArray, List.getElem_cons_zero, List.getElem_cons_succ, List.setIfInBounds_toArray, List.set_cons_zero, List.set_cons_succ]
    refine wpAnyH_take (i := 15) rfl (by kernel_rfl) (by kernel_rfl) (by kernel_rfl) (fun _ _ _ h => h) (yields_ad H4 C2 (by rfl) _ rfl rfl) (by assumption) ?_
    try simp only [Act.put, List.getElem_toArray, List.getElem_cons_zero, List.getElem_cons_succ, List.setIfInBounds_toArray, List.set_cons_zero, List.set_cons_succ]
    refine wpAnyH_take (i := 16) (v := ?_) rfl (by kernel_rfl) (by kernel_rfl) (by kernel_rfl) (fun _ _ _ h => h) (Or.inl ⟨by rfl, ?_⟩) (by assumption) ?_
    rotate_left
    · (intro w hSw; go_simp; try (with_reducible rfl))
    try simp only [Act.put, List.getElem_toArray, List.getElem_cons_zero, List.getElem_cons_succ, List.setIfInBounds_toArray, List.set_cons_zero, List.set_cons_succ]
    refine wpAnyH_take (i := 17) (v := ?_) rfl (by kernel_rfl) (by kernel_rfl) (by kernel_rfl) (fun _ _ _ h => h) (Or.inl ⟨by rfl, ?_⟩) (by assumption) ?_
    rotate_left
    · (intro w hSw; go_simp; try (with_reducible rfl))
    try simp only [Act.put, List.getElem_toArray, List.getElem_cons_zero, List.getElem_cons_succ, List.setIfInBounds_toArray, List.set_cons_zero, List.set_cons_succ]
    refine wpAnyH_take (i := 18) (v := ?_) rfl (by kernel_rfl) (by kernel_rfl) (by kernel_rfl) (fun _ _ _ h => h) (Or.inl ⟨by rfl, ?_⟩) (by assumption) ?_
    rotate_left
    · (intro w hSw; go_simp; try (with_reducible rfl))
    try simp only [Act.put, List.getElem_toArray, List.getElem_cons_zero, List.getElem_cons_succ, List.setIfInBounds_toArray, List.set_cons_zero, List.set_cons_succ]
    refine wpAnyH_ready (rs := [19]) (by kernel_rfl) (by simp) ?_
    refine AllReadyH.cons rfl (fun K hK => ?_) AllReadyH.nil
    go_simp
    refine (HKV _ (by assumption)).out.mono ?_
    rintro e wr19 ⟨rfl, hS19⟩
    go_wp2_with fail
    refine hK.out _ _ hS19 (fun hHeld => ?_)
    clear hK K
    try simp only [Act.put, List.getElem_toArray, List.getElem_cons_zero, List.getElem_cons_succ, List.setIfInBounds_toArray, List.set_cons_zero, List.set_cons_succ]
    refine wpAnyH_take (i := 20) (v := ?_) rfl (by kernel_rfl) (by kernel_rfl) (by kernel_rfl) (fun _ _ _ h => h) (Or.inl ⟨by rfl, ?_⟩) (by assumption) ?_
    rotate_left
    · (intro w hSw; go_simp; try (with_reducible rfl))
    try simp only [Act.put, List.getElem_toArray, List.getElem_cons_zero, List.getElem_cons_succ, List.setIfInBounds_toArray, List.set_cons_zero, List.set_cons_succ]
    refine wpAnyH_take (i := 21) (v := ?_) rfl (by kernel_rfl) (by kernel_rfl) (by kernel_rfl) (fun _ _ _ h => h) (Or.inl ⟨by rfl, ?_⟩) (by assumption) ?_
    rotate_left
    · (intro w hSw; go_simp; try (with_reducible rfl))
    try simp only [Act.put, List.getElem_toArray, List.getElem_cons_zero, List.getElem_cons_succ, List.setIfInBounds_toArray, List.set_cons_zero, List.set_cons_succ]
    refine wpAnyH_done (by kernel_rfl) ?_ _
    refine NoPanic.normal ?_
    go_wp2_with fail
    go_ret
    exact ⟨rfl, HFIN.out _ hHeld⟩

set_option maxRecDepth 100000 in
theorem lifted (os : Os) (started : os.Started) (H : Type) (enc : TypeId × Value → H) :
    ReturnsInHanded {} Try.checked os 7 .any (Rows.cacheTypesSpec.pre6 enc Try.prog Try.f7 Rows.cacheTypesRow.domain false) (Rows.cacheTypesSpec.post enc Try.prog Try.f7 false true false false) := by
  refine returnsInHanded_of_change (C := Try.checked) own started (by kernel_rfl) Try.func7
    (ChangeSpec.witness6 (enc := enc) (C := Try.checked) false ⟨#[], #[.string ByteArray.empty, .int .i64 0, .int .i64 0, .agg #[.int .i64 0, .int .i64 0]], []⟩ 8 (by kernel_rfl) (by kernel_rfl) (by kernel_rfl) (by kernel_rfl)) ?_
  intro W base args ds gs before hval0 hW hcnd _
  have hval : ∀ (j : Nat) t v, Try.f7.params[j]? = some t → args[j]? = some v → Value.okWide Try.prog W .any base t v := hval0
  have hW' := hW
  obtain ⟨p, q, hA0, hV, rfl, hfz, hnd⟩ := hW
  have hA : DataW.TrodAll enc Try.prog W 0 (fun _ => true) true Try.f7.params.toList args.toList ds p := hA0
  rw [Try.params7] at hA hval
  obtain ⟨v0, vs0, d0, ds0, p0, q0, hargs, rfl, rfl, h0, r0⟩ := trodAll_cons hA
  obtain ⟨v1, vs1, d1, ds1, p1, q1, rfl, rfl, rfl, h1, r1⟩ := trodAll_cons r0
  obtain ⟨v2, vs2, d2, ds2, p2, q2, rfl, rfl, rfl, h2, r2⟩ := trodAll_cons r1
  obtain ⟨v3, vs3, d3, ds3, p3, q3, rfl, rfl, rfl, h3, r3⟩ := trodAll_cons r2
  obtain ⟨rfl, rfl, rfl⟩ := trodAll_nil r3
  obtain rfl : args = #[v0, v1, v2, v3] := by cases args; simp_all
  obtain ⟨rfl, rfl⟩ := trodVars_none hV
  obtain ⟨a0, rfl, rfl, rfl, w0⟩ := open_string Try.underlying9 (hval 0 9 v0 rfl rfl) h0
  obtain ⟨a1, rfl, rfl, rfl, w1⟩ := open_int Try.underlying3 (hval 1 3 v1 rfl rfl) h1
  obtain ⟨a2, rfl, rfl, rfl, w2⟩ := open_int Try.underlying3 (hval 2 3 v2 rfl rfl) h2
  have k3 := h3
  have lt3 : ∀ x ∈ p3, x.block < W.heap.size := by obtain ⟨m, hm⟩ := k3; exact DataW.trod_lt m _ _ _ hm
  obtain ⟨z3, rfl, l3, w3⟩ := open_int_array Try.underlying64 Try.underlying3 (by kernel_rfl) (by kernel_rfl) (hval 3 64 v3 rfl rfl) h3
  clear hA0 hval0
  refine (walk a0 a1 a2 z3 w0 w1 w2 l3 w3 W).mono fun e W' ⟨he, bel⟩ => ?_
  subst he
  exact ⟨_, rfl, _, _, _, [], _, [], hW', trodAll_mk1 (shut_bool Try.underlying4 _), (trodAll_cons_mk (shut_string Try.underlying9 w0) (trodAll_cons_mk (shut_int Try.underlying3 w1) (trodAll_cons_mk (shut_int Try.underlying3 w2) (trodAll_cons_mk (Below.trod laidOut (by kernel_rfl) (of_decide_eq_true (by kernel_rfl)) k3 bel lt3) trodAll_mk0)))), rfl, bel.frame _, fun h => by cases h⟩

theorem over : Rows.cacheTypesRow.holds Try.pinned (OpenSpec.ofChange Rows.cacheTypesSpec) :=
  OpenClaim.holds_of_wide 7 Try.f7 rfl rfl rfl rfl rfl rfl rfl ⟨rfl, rfl, rfl, rfl, rfl⟩ rfl rfl rfl rfl rfl (by kernel_rfl) Try.func7 (by kernel_rfl)
    (of_decide_eq_true (by kernel_rfl)) (by unfold Func.isWrapper; first | (rw [if_pos (by decide +kernel)]; kernel_rfl) | (rw [if_neg (by decide +kernel)]; exact ⟨rfl, rfl⟩))
    (fun os started H enc _ => lifted os started H enc)


theorem proved : Rows.CacheTypesSaid := over
#print axioms proved
end Go.Proofs.Ytjmmedpkcedngaa.cacheTypes

/- What Find finds holds the address, and no entry that holds it is longer. -/
import Derived.Test.YtjpjobbmljlacaaB7
import Derived.Test.YtjpjobbmljlacaaRows
import Derived.ProofKit
import Derived.OpenShut
import Derived.ShutString
import Derived.ChangeOld
import Derived.Below
namespace Go.Proofs.Ytjpjobbmljlacaa.tableLongest
open Go.ChangeShapes Go.WideShapes Go.ChangeAt Go.RowKit
open Go.ChangeMaps (open_string shut_string)
set_option linter.unusedVariables false
set_option maxRecDepth 20000

theorem own : ownKnob Try.prog.godebug = none := by kernel_rfl

theorem ent_bits {w : World} {G : Nat} {f : Int} {bs : List Nat} {n v : Int} (h : EntAt w G f bs n v) : w.cell? ⟨G, 17, none⟩ = some (.int .i64 n) := by
  have := h.pref 17 (.int .i64 n) (by unfold prefL; rw [List.getElem?_append_right (by rw [addrL_len _ _ h.len]; exact Nat.le_refl _), addrL_len _ _ h.len]; rfl)
  rw [Nat.zero_add] at this
  exact this
set_option maxRecDepth 100000 in
set_option maxHeartbeats 2000000 in
theorem walk (a : Option Addr) (len cap : Nat) (D : List DeedD) (f : Int) (z : List Nat) (w : World) (hD : DeedsAt w a len cap D) (fw : (Lit.int .i64 f).wf = true) (l1 : z.length = 16) (w1 : ∀ x ∈ z, x < 256) :
    Calls Try.prog 5 #[.slice a len cap, addrV f z] w fun e w' => e = .returned (.bool true) ∧ Below w.heap.size w w' := by
  have HLV := fun W => Lib.hid (lives_any W)
  have HGO := fun W => Lib.hid (refGood_any f z W l1 w1)
  have hga := good_is f z l1 w1
  obtain ⟨cs, ecs, HA, HB⟩ := addr_boxed f z w l1
  generalize hgf : goodF f = gf at *
  generalize hgb : goodB f z = gb at *
  have HGA := Lib.hid hga
  have G16 := Lib.hid hga.len
  have hle := playE_le D
  have HPLD := fun W (h : Below w.heap.size w W) => Lib.hid (played a len cap D W (hD.below h))
  generalize playE D 40 = es at *
  rw [ecs]
  clear ecs hD fw l1 w1 hga hgf hgb
  refine (callsIn_wide (n := 0)).1 (callsIn_of_wp_marks Try.func5 rfl trivial (wpIn_wide.2 ?_) rfl)
  simp only [Try.ntmps5, List.size_toArray, List.length_cons, List.length_nil, Nat.reduceAdd, Nat.reduceSub, Array.replicate_succ, Array.replicate_zero, List.push_toArray, List.append_toArray, List.nil_append, List.cons_append]
  go_upto_region 1 with fail
  obtain ⟨W0, hW0⟩ : ∃ W0, (w.alloc (.cells cs 30)).alloc (.cells #[Value.bool false] 4) = W0 := ⟨_, rfl⟩
  have HZ0 : Hid (W0.heap.size = w.heap.size + 2) := Lib.hid (by rw [← hW0]; simp)
  have HC0 : Hid (W0.heap[w.heap.size + 1]? = some (.cells #[Value.bool false] 4)) := Lib.hid (by rw [← hW0]; have := World.alloc_heap_new (w.alloc (.cells cs 30)) (.cells #[Value.bool false] 4); rwa [World.size_alloc] at this)
  have HA0 : Hid (AddrAt W0 w.heap.size f z) := Lib.hid (by rw [← hW0]; exact HA.out.alloc _)
  have HB0 : Hid (Below w.heap.size w W0) := Lib.hid (by rw [← hW0]; exact HB.out.alloc HB.out.size _)
  rw [hW0]
  clear hW0 HA HB
  go_wp2_with fail
  refine (HPLD W0 HB0.out).out.mono ?_
  rintro e V1 ⟨G, ra, rc, F, rfl, hT, hR, hF, hb1, hN⟩
  have HT1 := Lib.hid hT
  have HF1 := Lib.hid hF
  have HB1 := Lib.hid (chain HB0.out hb1)
  have HA1 := Lib.hid (HA0.out.below hb1)
  have HC1 : Hid (V1.heap[w.heap.size + 1]? = some (.cells #[Value.bool false] 4)) := Lib.hid ((hb1.block _ (by rw [HZ0.out]; omega)).trans HC0.out)
  have HG1 : Hid (w.heap.size + 2 ≤ G) := Lib.hid (by have := hF G hT.lt.1; rw [HZ0.out] at this; exact this)
  have HGD : Hid (AllGood es) := Lib.hid hR.2.1
  clear hT hR hF hb1 hN HPLD HA0 HC0 HB0
  go_wp2_with (refine load_addr_g HA1 _ rfl rfl rfl ?_)
  refine (HGO _).out.mono ?_
  rintro e V2 ⟨rfl, hb2⟩
  have HB2 := Lib.hid (chain HB1.out hb2)
  have HT2 := Lib.hid (HT1.out.below hb2)
  have HA2 := Lib.hid (HA1.out.below hb2)
  have HC2 : Hid (V2.heap[w.heap.size + 1]? = some (.cells #[Value.bool false] 4)) := Lib.hid ((hb2.block _ (Array.getElem?_eq_some_iff.1 HC1.out).1).trans HC1.out)
  clear hb2 HB1 HT1 HA1 HC1 HGO
  go_upto_region 5 with (refine store_addr HA2 _ _ G16 rfl rfl rfl rfl (fun V3 HV3 HA3 => ?_))
  have hf3 : Foot [w.heap.size] [w.heap.size] V2 V3 := by rw [HV3.out]; exact foot_cells _ _ _
  have HB3 := Lib.hid (HB2.out.trans (hf3.below (B := w.heap.size) (by simp) HB2.out.size))
  have HT3 := Lib.hid (HT2.out.keep hf3.size (fun k hk => hf3.keep k (HT2.out.lt.2 k hk) (fun e => by have := HF1.out k hk; rw [HZ0.out] at this; simp at e; omega)))
  have HC3 : Hid (V3.heap[w.heap.size + 1]? = some (.cells #[Value.bool false] 4)) := Lib.hid ((hf3.keep _ (Array.getElem?_eq_some_iff.1 HC2.out).1 (by simp)).trans HC2.out)
  clear hf3 HV3 HB2 HT2 HA2 HC2
  have HFN := Lib.hid (find_any G es 0 F gf gb V3 HT3.out HGA.out.len HGA.out.lt (by decide) (by decide))
  have HBE := Lib.hid (findE_best es gf gb)
  obtain ⟨ef, eb, en, ev, et, her, he16, HBT⟩ : ∃ (ef : Int) (eb : List Nat) (en : Nat) (ev : Int) (et : Bool), entRet (findE es gf gb) = .tuple #[entV ef eb (en : Int) ev, .bool et] ∧ (eb.length = 16 ∧ (∀ x ∈ eb, x < 256) ∧ en ≤ 128) ∧ Hid ((et = true → hasB ef eb en gf gb = true) ∧ ∀ x ∈ es, hasB x.f x.b x.n gf gb = true → et = true ∧ x.n ≤ en) := by
    cases h : findE es gf gb with
    | none => exact ⟨0, List.replicate 16 0, 0, 0, false, rfl, ⟨rfl, by decide, by decide⟩, Lib.hid ⟨(fun e => by cases e), fun x hx hh => by rw [HBE.out.1 h x hx] at hh; cases hh⟩⟩
    | some y =>
      obtain ⟨h1, h2, h3⟩ := HBE.out.2 y h
      have hg := (HGD.out y h1).1
      exact ⟨y.f, y.b, y.n, y.v, true, rfl, ⟨hg.len, hg.lt, Nat.le_trans hg.le (bitsN_le _)⟩, Lib.hid ⟨fun _ => h2, fun x hx hh => ⟨rfl, h3 x hx hh⟩⟩⟩
  have E16 := Lib.hid he16.1
  have HHE := fun W => Lib.hid (refHas_any ef eb en gf gb W he16.1 HGA.out.len he16.2.1 HGA.out.lt (by have := he16.2.2; omega))
  have hen := he16.2.2
  go_wp2_with (refine load_addr_g HA3 _ rfl rfl rfl ?_)
  refine HFN.out.mono ?_
  rintro e V4 ⟨rfl, ⟨st4, hT4, _, _⟩, hf4⟩
  rw [her]
  have HB4 := Lib.hid (HB3.out.trans (hf4.below (B := w.heap.size) (by have := HG1.out; simp; omega) HB3.out.size))
  have HA4 := Lib.hid (HA3.out.foot hf4 (by have := HG1.out; simp; omega))
  have HT4 := Lib.hid hT4
  have HC4 : Hid (V4.heap[w.heap.size + 1]? = some (.cells #[Value.bool false] 4)) := Lib.hid ((hf4.keep _ (Array.getElem?_eq_some_iff.1 HC3.out).1 (by have := HG1.out; simp; omega)).trans HC3.out)
  clear hT4 hf4 HB3 HA3 HT3 HC3 HFN her he16 HBE
  have HZ4 := Lib.hid ((entT_zeroed V4).alloc (.cells #[Value.bool false] 4))
  have HX4 : Hid (((V4.alloc (.cells zE 42)).alloc (.cells #[Value.bool false] 4)).heap[V4.heap.size + 1]? = some (.cells #[Value.bool false] 4)) := Lib.hid (by have := World.alloc_heap_new (V4.alloc (.cells zE 42)) (.cells #[Value.bool false] 4); rwa [World.size_alloc] at this)
  have HX5 : Hid (Below V4.heap.size V4 ((V4.alloc (.cells zE 42)).alloc (.cells #[Value.bool false] 4))) := Lib.hid (((Below.refl _ _).alloc (Nat.le_refl _) _).alloc (by simp) _)
  go_upto_region 6 with (refine store_entT HZ4 _ _ E16 rfl rfl rfl rfl (fun V5 HV5 HE5 => ?_); have hh5 : Hid (V5.heap[V4.heap.size + 1]? = some (.cells #[Value.bool false] 4)) := Lib.hid (by rw [HV5.out, blk_cells _ _ _ _ _ (by omega)]; exact HX4.out); have hc5 : V5.cell? ⟨V4.heap.size + 1, 0, none⟩ = some (.bool false) := (by rw [cell_of_row _ _ 0 _ _ _ hh5.out]; rfl); have hf5 : V5.frozen? ⟨V4.heap.size + 1, 0, none⟩ = false := (by unfold World.frozen?; rw [hh5.out]; rfl))
  have hf6 := foot_cell V5 (V4.heap.size + 1) 0 (.bool et)
  have hs5 : Hid (V4.heap.size ≤ V5.heap.size) := Lib.hid (by rw [HV5.out, size_setCells]; exact HX5.out.size)
  have hb5 : Below V4.heap.size V4 (V5.setCell ⟨V4.heap.size + 1, 0, none⟩ (.bool et)) := (HX5.out.trans (by rw [HV5.out]; exact below_cells (Nat.le_refl _) _ _ _ (Below.refl _ _))).trans (hf6.below (by simp) hs5.out)
  have HB6 := Lib.hid (chain HB4.out hb5)
  have HA6 := Lib.hid (HA4.out.below hb5)
  have HT6 := Lib.hid (HT4.out.below hb5)
  have HC6 : Hid ((V5.setCell ⟨V4.heap.size + 1, 0, none⟩ (.bool et)).heap[w.heap.size + 1]? = some (.cells #[Value.bool false] 4)) := Lib.hid ((hb5.block _ (Array.getElem?_eq_some_iff.1 HC4.out).1).trans HC4.out)
  have HE6 := Lib.hid (HE5.out.same hf6.size (hf6.keep _ HE5.out.lt (by simp)))
  have HI6 : Hid ((V5.setCell ⟨V4.heap.size + 1, 0, none⟩ (.bool et)).heap[V4.heap.size + 1]? = some (.cells #[Value.bool et] 4)) := Lib.hid (cell1_set hh5.out _)
  have HVB : Hid (w.heap.size + 2 ≤ V4.heap.size) := Lib.hid (by have h1 := HG1.out; have h2 := HT4.out.lt.2 G HT4.out.lt.1; omega)
  clear hf6 hb5 hs5 HV5 HE5 hh5 hc5 hf5 HZ4 HX4 HX5 HB4 HA4 HT4 HC4
  generalize V5.setCell ⟨V4.heap.size + 1, 0, none⟩ (.bool et) = V6 at *
  generalize V4.heap.size = BE at *
  have hi6 : V6.cell? ⟨BE + 1, 0, none⟩ = some (.bool et) := by rw [cell_of_row _ _ 0 _ _ _ HI6.out]; rfl
  have HP6 := Lib.hid HE6.out.pref
  cases et with
  | false =>
    go_upto_region 8 with fail
    obtain ⟨V7, HV7⟩ : ∃ V7, Hid (V7 = V6) := ⟨V6, Lib.hid rfl⟩
    have HS7 : Hid (Below V6.heap.size V6 V7) := Lib.hid (by rw [HV7.out]; exact Below.refl _ _)
    rw [← HV7.out]
    clear HV7
    have HB7 := Lib.hid (chain HB6.out HS7.out)
    have HA7 := Lib.hid (HA6.out.below HS7.out)
    have HT7 := Lib.hid (HT6.out.below HS7.out)
    have HE7 := Lib.hid (HE6.out.below HS7.out)
    have HC7 : Hid (V7.heap[w.heap.size + 1]? = some (.cells #[Value.bool false] 4)) := Lib.hid ((HS7.out.block _ (Array.getElem?_eq_some_iff.1 HC6.out).1).trans HC6.out)
    have HI7 : Hid (V7.heap[BE + 1]? = some (.cells #[Value.bool false] 4)) := Lib.hid ((HS7.out.block _ (Array.getElem?_eq_some_iff.1 HI6.out).1).trans HI6.out)
    have HALL : Hid (Calls Try.prog 18 #[.pointer (some ⟨G, 0, none⟩)] V7 fun e w' => ∃ B v', e = .returned (.func (.func 49) #[] #[.pointer (some ⟨B, 0, none⟩)]) ∧ w'.cell? ⟨B, 0, none⟩ = some v' ∧ RowT w' V7.heap.size v' es ∧ Below V7.heap.size V7 w') := Lib.hid (by
      obtain ⟨v, rfl, hT, hR, hs, hn⟩ := HT7.out
      exact all_any G v _ es V7 hT hR)
    clear HB6 HA6 HT6 HE6 HC6 HI6 HS7 hi6 HP6
    go_wp2_with fail
    refine HALL.out.mono ?_
    rintro e V8 ⟨B, v', rfl, hB, hr8, hb8⟩
    have HCB := Lib.hid hB
    have HR8 := Lib.hid hr8
    have HB8 := Lib.hid (chain HB7.out hb8)
    have HA8 := Lib.hid (HA7.out.below hb8)
    have HE8 := Lib.hid (HE7.out.below hb8)
    have HC8 : Hid (V8.heap[w.heap.size + 1]? = some (.cells #[Value.bool false] 4)) := Lib.hid ((hb8.block _ (Array.getElem?_eq_some_iff.1 HC7.out).1).trans HC7.out)
    have HI8 : Hid (V8.heap[BE + 1]? = some (.cells #[Value.bool false] 4)) := Lib.hid ((hb8.block _ (Array.getElem?_eq_some_iff.1 HI7.out).1).trans HI7.out)
    clear hB hr8 hb8 HALL HB7 HA7 HE7 HC7 HI7 HT7
    have qf := func_not_nil
    go_wp2_with fail
    have HTE := Lib.hid (tells_of HR8.out HCB.out [] (fun g hg e => by cases e))
    refine range_each (gf := 49) (lb := #[.pointer (some ⟨B, 0, none⟩)]) rfl (enters_of Try.func49 (by kernel_rfl) rfl) es encE [] (fun k hk => by cases hk) V8 HTE.out (Below.refl _ _)
      (fun k W => Below V8.heap.size V8 W) (fun k A B h hb => h.trans hb) (Below.refl _ _) ?round ?done
    case round =>
      intro l k hk W hl hlW hIk
      obtain ⟨y, hy⟩ : ∃ y, es[k] = y := ⟨_, rfl⟩
      have HMY : Hid (y ∈ es) := Lib.hid (by rw [← hy]; exact List.getElem_mem hk)
      have HGY : Hid y.Good := Lib.hid (HGD.out _ HMY.out)
      have H16 := Lib.hid HGY.out.1.len
      have hyn : y.n ≤ 128 := Nat.le_trans HGY.out.1.le (bitsN_le _)
      have HHY := fun W => Lib.hid (refHas_any y.f y.b y.n gf gb W HGY.out.1.len HGA.out.len HGY.out.1.lt HGA.out.lt (by omega))
      rw [hy, show encE y = entV y.f y.b (y.n : Int) y.v from rfl]
      have HIK := Lib.hid hIk
      have HLL := Lib.hid hl
      have HLW := Lib.hid hlW
      have HZ := Lib.hid (entT_zeroed W)
      clear hy hk hIk hl hlW qf
      refine round_region rfl (fun ⟨_, _, h⟩ => h) ?_
      simp only [List.setIfInBounds_toArray, List.set_cons_succ, List.set_cons_zero]
      go_wp2_with (refine store_entT HZ _ _ H16 rfl rfl rfl rfl (fun W3 HW3 HE3 => ?_))
      refine ⟨below_newT HW3, fun w₂ hf2 => ?_⟩
      have HB3 := Lib.hid (below_newT HW3)
      have HX2 := Lib.hid (HE3.out.same hf2.size (hf2.keep _ HE3.out.lt (by have := HLW.out; simp; omega)))
      have HI2 : Hid (Below V8.heap.size V8 w₂) := Lib.hid (by
        have hlt := HLL.out
        have hs := HIK.out.size
        exact (HIK.out.trans (HB3.out.mono (by omega))).trans (hf2.below (by simp; omega) (by have := HB3.out.size; omega)))
      clear HZ HW3 HE3 hf2 HB3 HIK
      have HA2 := Lib.hid (HA8.out.below HI2.out)
      have HE2 := Lib.hid (HE8.out.below HI2.out)
      have HP2 := Lib.hid HX2.out.pref
      refine wpIn_block (wpIn_seq ?_)
      refine round_region rfl (fun ⟨_, _, h⟩ => by cases h.1) ?_
      go_wp2_with (first | refine load_pref_o H16 HP2 _ rfl rfl rfl ?_ | refine load_addr_g HA2 _ rfl rfl rfl ?_)
      refine (HHY _).out.mono ?_
      rintro e w4 ⟨rfl, hb4⟩
      have HI4 : Hid (Below V8.heap.size V8 w4) := Lib.hid (HI2.out.trans (hb4.mono HI2.out.size))
      have HX4 := Lib.hid (HX2.out.below hb4)
      have HE4 := Lib.hid (HE2.out.below hb4)
      have HS4 : Hid (Below w₂.heap.size w₂ w4) := Lib.hid hb4
      have hci : w4.cell? ⟨BE + 1, 0, none⟩ = some (.bool false) := by
        rw [HI4.out.cell (p := ⟨BE + 1, 0, none⟩) (Array.getElem?_eq_some_iff.1 HI8.out).1, cell_of_row _ _ 0 _ _ _ HI8.out]; rfl
      have hcx : w4.cell? ⟨W.heap.size, 17, none⟩ = some (.int .i64 (y.n : Int)) := ent_bits HX4.out
      have hce : w4.cell? ⟨BE, 17, none⟩ = some (.int .i64 (en : Int)) := ent_bits HE4.out
      clear HX2 HE2 HA2 HP2 HI2 HHY hb4
      go_wp2_with fail
      refine wpIn_seq ?_
      refine round_region rfl (fun ⟨_, _, h⟩ => by cases h.1) ?_
      cases hh : hasB y.f y.b y.n gf gb with
      | false =>
        go_wp2_with fail
        refine wpIn_cond_false rfl (wpIn_skip ?_)
        exact ⟨rfl, Foot.ofBelow _ HS4.out, HI4.out⟩
      | true =>
        exact absurd (HBT.out.2 y HMY.out hh).1 (by decide)
    case done =>
      intro W hb hD
      have HBW := Lib.hid hb
      have HDF := Lib.hid hD
      clear hb hD
      have hlt : w.heap.size + 1 < V8.heap.size := (Array.getElem?_eq_some_iff.1 HC8.out).1
      go_wp2_with fail
      refine (HLV _).out.mono ?_
      rintro e V9 ⟨rfl, hb9⟩
      have HBX : Hid (Below V8.heap.size V8 V9) := Lib.hid (HBW.out.trans (hb9.mono HBW.out.size))
      have hr9 : V9.heap[w.heap.size + 1]? = some (.cells #[Value.bool false] 4) := (HBX.out.block _ hlt).trans HC8.out
      have hc9 : V9.cell? ⟨w.heap.size + 1, 0, none⟩ = some (.bool false) := by rw [cell_of_row _ _ 0 _ _ _ hr9]; rfl
      have hf9 : V9.frozen? ⟨w.heap.size + 1, 0, none⟩ = false := by unfold World.frozen?; rw [hr9]; rfl
      have HD9 : Hid (V9.heap[V8.heap.size]? = some (.deferred (some []))) := Lib.hid ((hb9.block _ (Array.getElem?_eq_some_iff.1 HDF.out).1).trans HDF.out)
      clear hb9 HLV HDF
      go_wp2_with fail
      have hD2 : (V9.setCell ⟨w.heap.size + 1, 0, none⟩ (.bool true)).heap[V8.heap.size]? = some (.deferred (some [])) := by
        rw [Below.heap_setCell V9 ⟨w.heap.size + 1, 0, none⟩ _ _ (by show V8.heap.size ≠ w.heap.size + 1; omega)]
        exact HD9.out
      refine ⟨by simp, .inl ⟨_, _, rfl, run_takeDeferred hD2, ?_⟩⟩
      have hBB := chain HB8.out HBX.out
      refine ⟨_, results_bool (R := w.heap.size + 1) (b := true) rfl rfl ?_, rfl, ?_⟩
      · have hne : w.heap.size + 1 ≠ V8.heap.size := by omega
        rw [World.cell?_of_block (w := V9.setCell ⟨w.heap.size + 1, 0, none⟩ (.bool true)) (a := ⟨w.heap.size + 1, 0, none⟩) (World.putObj_heap_other hne)]
        exact World.cell?_setCell_same' _ _ _ (by rw [hc9]; rfl)
      · have h3 := (foot_cell V9 (w.heap.size + 1) 0 (.bool true)).below (B := w.heap.size) (by simp) hBB.size
        exact (hBB.trans h3).trans (below_put _ (by omega))
  | true =>
    have hhe : hasB ef eb en gf gb = true := HBT.out.1 rfl
    rw [hhe] at HHE
    clear hhe
    go_wp2_with (first | refine load_pref_o E16 HP6 _ rfl rfl rfl ?_ | refine load_addr_g HA6 _ rfl rfl rfl ?_)
    refine (HHE _).out.mono ?_
    rintro e V7 ⟨rfl, hb7⟩
    have HS7 := Lib.hid hb7
    clear hb7 HHE
    go_upto_region 8 with fail
    have HB7 := Lib.hid (chain HB6.out HS7.out)
    have HA7 := Lib.hid (HA6.out.below HS7.out)
    have HT7 := Lib.hid (HT6.out.below HS7.out)
    have HE7 := Lib.hid (HE6.out.below HS7.out)
    have HC7 : Hid (V7.heap[w.heap.size + 1]? = some (.cells #[Value.bool false] 4)) := Lib.hid ((HS7.out.block _ (Array.getElem?_eq_some_iff.1 HC6.out).1).trans HC6.out)
    have HI7 : Hid (V7.heap[BE + 1]? = some (.cells #[Value.bool true] 4)) := Lib.hid ((HS7.out.block _ (Array.getElem?_eq_some_iff.1 HI6.out).1).trans HI6.out)
    have HALL : Hid (Calls Try.prog 18 #[.pointer (some ⟨G, 0, none⟩)] V7 fun e w' => ∃ B v', e = .returned (.func (.func 49) #[] #[.pointer (some ⟨B, 0, none⟩)]) ∧ w'.cell? ⟨B, 0, none⟩ = some v' ∧ RowT w' V7.heap.size v' es ∧ Below V7.heap.size V7 w') := Lib.hid (by
      obtain ⟨v, rfl, hT, hR, hs, hn⟩ := HT7.out
      exact all_any G v _ es V7 hT hR)
    clear HB6 HA6 HT6 HE6 HC6 HI6 HS7 hi6 HP6
    go_wp2_with fail
    refine HALL.out.mono ?_
    rintro e V8 ⟨B, v', rfl, hB, hr8, hb8⟩
    have HCB := Lib.hid hB
    have HR8 := Lib.hid hr8
    have HB8 := Lib.hid (chain HB7.out hb8)
    have HA8 := Lib.hid (HA7.out.below hb8)
    have HE8 := Lib.hid (HE7.out.below hb8)
    have HC8 : Hid (V8.heap[w.heap.size + 1]? = some (.cells #[Value.bool false] 4)) := Lib.hid ((hb8.block _ (Array.getElem?_eq_some_iff.1 HC7.out).1).trans HC7.out)
    have HI8 : Hid (V8.heap[BE + 1]? = some (.cells #[Value.bool true] 4)) := Lib.hid ((hb8.block _ (Array.getElem?_eq_some_iff.1 HI7.out).1).trans HI7.out)
    clear hB hr8 hb8 HALL HB7 HA7 HE7 HC7 HI7 HT7
    have qf := func_not_nil
    go_wp2_with fail
    have HTE := Lib.hid (tells_of HR8.out HCB.out [] (fun g hg e => by cases e))
    refine range_each (gf := 49) (lb := #[.pointer (some ⟨B, 0, none⟩)]) rfl (enters_of Try.func49 (by kernel_rfl) rfl) es encE [] (fun k hk => by cases hk) V8 HTE.out (Below.refl _ _)
      (fun k W => Below V8.heap.size V8 W) (fun k A B h hb => h.trans hb) (Below.refl _ _) ?round ?done
    case round =>
      intro l k hk W hl hlW hIk
      obtain ⟨y, hy⟩ : ∃ y, es[k] = y := ⟨_, rfl⟩
      have HMY : Hid (y ∈ es) := Lib.hid (by rw [← hy]; exact List.getElem_mem hk)
      have HGY : Hid y.Good := Lib.hid (HGD.out _ HMY.out)
      have H16 := Lib.hid HGY.out.1.len
      have hyn : y.n ≤ 128 := Nat.le_trans HGY.out.1.le (bitsN_le _)
      have HHY := fun W => Lib.hid (refHas_any y.f y.b y.n gf gb W HGY.out.1.len HGA.out.len HGY.out.1.lt HGA.out.lt (by omega))
      rw [hy, show encE y = entV y.f y.b (y.n : Int) y.v from rfl]
      have HIK := Lib.hid hIk
      have HLL := Lib.hid hl
      have HLW := Lib.hid hlW
      have HZ := Lib.hid (entT_zeroed W)
      clear hy hk hIk hl hlW qf
      refine round_region rfl (fun ⟨_, _, h⟩ => h) ?_
      simp only [List.setIfInBounds_toArray, List.set_cons_succ, List.set_cons_zero]
      go_wp2_with (refine store_entT HZ _ _ H16 rfl rfl rfl rfl (fun W3 HW3 HE3 => ?_))
      refine ⟨below_newT HW3, fun w₂ hf2 => ?_⟩
      have HB3 := Lib.hid (below_newT HW3)
      have HX2 := Lib.hid (HE3.out.same hf2.size (hf2.keep _ HE3.out.lt (by have := HLW.out; simp; omega)))
      have HI2 : Hid (Below V8.heap.size V8 w₂) := Lib.hid (by
        have hlt := HLL.out
        have hs := HIK.out.size
        exact (HIK.out.trans (HB3.out.mono (by omega))).trans (hf2.below (by simp; omega) (by have := HB3.out.size; omega)))
      clear HZ HW3 HE3 hf2 HB3 HIK
      have HA2 := Lib.hid (HA8.out.below HI2.out)
      have HE2 := Lib.hid (HE8.out.below HI2.out)
      have HP2 := Lib.hid HX2.out.pref
      refine wpIn_block (wpIn_seq ?_)
      refine round_region rfl (fun ⟨_, _, h⟩ => by cases h.1) ?_
      go_wp2_with (first | refine load_pref_o H16 HP2 _ rfl rfl rfl ?_ | refine load_addr_g HA2 _ rfl rfl rfl ?_)
      refine (HHY _).out.mono ?_
      rintro e w4 ⟨rfl, hb4⟩
      have HI4 : Hid (Below V8.heap.size V8 w4) := Lib.hid (HI2.out.trans (hb4.mono HI2.out.size))
      have HX4 := Lib.hid (HX2.out.below hb4)
      have HE4 := Lib.hid (HE2.out.below hb4)
      have HS4 : Hid (Below w₂.heap.size w₂ w4) := Lib.hid hb4
      have hci : w4.cell? ⟨BE + 1, 0, none⟩ = some (.bool true) := by
        rw [HI4.out.cell (p := ⟨BE + 1, 0, none⟩) (Array.getElem?_eq_some_iff.1 HI8.out).1, cell_of_row _ _ 0 _ _ _ HI8.out]; rfl
      have hcx : w4.cell? ⟨W.heap.size, 17, none⟩ = some (.int .i64 (y.n : Int)) := ent_bits HX4.out
      have hce : w4.cell? ⟨BE, 17, none⟩ = some (.int .i64 (en : Int)) := ent_bits HE4.out
      clear HX2 HE2 HA2 HP2 HI2 HHY hb4
      go_wp2_with fail
      refine wpIn_seq ?_
      refine round_region rfl (fun ⟨_, _, h⟩ => by cases h.1) ?_
      cases hh : hasB y.f y.b y.n gf gb with
      | false =>
        go_wp2_with fail
        refine wpIn_cond_false rfl (wpIn_skip ?_)
        exact ⟨rfl, Foot.ofBelow _ HS4.out, HI4.out⟩
      | true =>
        have hle2 := (HBT.out.2 y HMY.out hh).2
        have hd : decide ((en : Int) < (y.n : Int)) = false := by simp; omega
        have hd2 : decide (en < y.n) = false := by simp; omega
        go_wp2_with fail
        refine wpIn_cond_false rfl (wpIn_skip ?_)
        exact ⟨rfl, Foot.ofBelow _ HS4.out, HI4.out⟩
    case done =>
      intro W hb hD
      have HBW := Lib.hid hb
      have HDF := Lib.hid hD
      clear hb hD
      have hlt : w.heap.size + 1 < V8.heap.size := (Array.getElem?_eq_some_iff.1 HC8.out).1
      go_wp2_with fail
      refine (HLV _).out.mono ?_
      rintro e V9 ⟨rfl, hb9⟩
      have HBX : Hid (Below V8.heap.size V8 V9) := Lib.hid (HBW.out.trans (hb9.mono HBW.out.size))
      have hr9 : V9.heap[w.heap.size + 1]? = some (.cells #[Value.bool false] 4) := (HBX.out.block _ hlt).trans HC8.out
      have hc9 : V9.cell? ⟨w.heap.size + 1, 0, none⟩ = some (.bool false) := by rw [cell_of_row _ _ 0 _ _ _ hr9]; rfl
      have hf9 : V9.frozen? ⟨w.heap.size + 1, 0, none⟩ = false := by unfold World.frozen?; rw [hr9]; rfl
      have HD9 : Hid (V9.heap[V8.heap.size]? = some (.deferred (some []))) := Lib.hid ((hb9.block _ (Array.getElem?_eq_some_iff.1 HDF.out).1).trans HDF.out)
      clear hb9 HLV HDF
      go_wp2_with fail
      have hD2 : (V9.setCell ⟨w.heap.size + 1, 0, none⟩ (.bool true)).heap[V8.heap.size]? = some (.deferred (some [])) := by
        rw [Below.heap_setCell V9 ⟨w.heap.size + 1, 0, none⟩ _ _ (by show V8.heap.size ≠ w.heap.size + 1; omega)]
        exact HD9.out
      refine ⟨by simp, .inl ⟨_, _, rfl, run_takeDeferred hD2, ?_⟩⟩
      have hBB := chain HB8.out HBX.out
      refine ⟨_, results_bool (R := w.heap.size + 1) (b := true) rfl rfl ?_, rfl, ?_⟩
      · have hne : w.heap.size + 1 ≠ V8.heap.size := by omega
        rw [World.cell?_of_block (w := V9.setCell ⟨w.heap.size + 1, 0, none⟩ (.bool true)) (a := ⟨w.heap.size + 1, 0, none⟩) (World.putObj_heap_other hne)]
        exact World.cell?_setCell_same' _ _ _ (by rw [hc9]; rfl)
      · have h3 := (foot_cell V9 (w.heap.size + 1) 0 (.bool true)).below (B := w.heap.size) (by simp) hBB.size
        exact (hBB.trans h3).trans (below_put _ (by omega))

set_option maxRecDepth 100000 in
theorem lifted (os : Os) (started : os.Started) (H : Type) (enc : TypeId × Value → H) :
    ReturnsInHanded {} Try.checked os 5 .any (Rows.tableLongestSpec.pre6 enc Try.prog Try.f5 Rows.tableLongestRow.domain false) (Rows.tableLongestSpec.post enc Try.prog Try.f5 false true false false) := by
  refine returnsInHanded_of_change (C := Try.checked) own started (by kernel_rfl) Try.func5
    (ChangeSpec.witness6 (enc := enc) (C := Try.checked) false ⟨#[], #[.slice none 0 0, .agg #[.int .i64 0, .int .u8 0, .int .u8 0, .int .u8 0, .int .u8 0, .int .u8 0, .int .u8 0, .int .u8 0, .int .u8 0, .int .u8 0, .int .u8 0, .int .u8 0, .int .u8 0, .int .u8 0, .int .u8 0, .int .u8 0, .int .u8 0]], []⟩ 8 (by kernel_rfl) (by kernel_rfl) (by kernel_rfl) (by kernel_rfl)) ?_
  intro W base args ds gs before hval0 hW hcnd _
  have hval : ∀ (j : Nat) t v, Try.f5.params[j]? = some t → args[j]? = some v → Value.okWide Try.prog W .any base t v := hval0
  have hW' := hW
  obtain ⟨p, q, hA0, hV, rfl, hfz, hnd⟩ := hW
  have hA : DataW.TrodAll enc Try.prog W 0 (fun _ => true) true Try.f5.params.toList args.toList ds p := hA0
  rw [Try.params5] at hA hval
  obtain ⟨v0, vs0, d0, ds0, p0, q0, hargs, rfl, rfl, h0, r0⟩ := trodAll_cons hA
  obtain ⟨v1, vs1, d1, ds1, p1, q1, rfl, rfl, rfl, h1, r1⟩ := trodAll_cons r0
  obtain ⟨rfl, rfl, rfl⟩ := trodAll_nil r1
  obtain rfl : args = #[v0, v1] := by cases args; simp_all
  obtain ⟨rfl, rfl⟩ := trodVars_none hV
  obtain ⟨a0, len0, cap0, rfl⟩ := okWide_slice Try.underlying22 (hval 0 22 v0 rfl rfl)
  have k0 := h0
  have lt0 : ∀ x ∈ p0, x.block < W.heap.size := by obtain ⟨m, hm⟩ := k0; exact DataW.trod_lt m _ _ _ hm
  obtain ⟨z0, w0⟩ := open_deeds h0
  have k1 := h1
  have lt1 : ∀ x ∈ p1, x.block < W.heap.size := by obtain ⟨m, hm⟩ := k1; exact DataW.trod_lt m _ _ _ hm
  obtain ⟨f1, z1, rfl, fw1, l1, w1⟩ := open_addr (hval 1 30 v1 rfl rfl) h1
  clear hA0 hval0
  refine (walk a0 len0 cap0 z0 f1 z1 W w0 fw1 l1 w1).mono fun e W' ⟨he, bel⟩ => ?_
  subst he
  exact ⟨_, rfl, _, _, _, [], _, [], hW', trodAll_mk1 (shut_bool Try.underlying4 _), (trodAll_cons_mk (Below.trod laidOut (by kernel_rfl) (of_decide_eq_true (by kernel_rfl)) k0 bel lt0) (trodAll_cons_mk (Below.trod laidOut (by kernel_rfl) (of_decide_eq_true (by kernel_rfl)) k1 bel lt1) trodAll_mk0)), rfl, bel.frame _, fun h => by cases h⟩

theorem over : Rows.tableLongestRow.holds Try.pinned (OpenSpec.ofChange Rows.tableLongestSpec) :=
  OpenClaim.holds_of_wide 5 Try.f5 rfl rfl rfl rfl rfl rfl rfl ⟨rfl, rfl, rfl, rfl, rfl⟩ rfl rfl rfl rfl rfl (by kernel_rfl) Try.func5 (by kernel_rfl)
    (of_decide_eq_true (by kernel_rfl)) (by unfold Func.isWrapper; first | (rw [if_pos (by decide +kernel)]; kernel_rfl) | (rw [if_neg (by decide +kernel)]; exact ⟨rfl, rfl⟩))
    (fun os started H enc _ => lifted os started H enc)


theorem proved : Rows.TableLongestSaid := over
#print axioms proved
end Go.Proofs.Ytjpjobbmljlacaa.tableLongest

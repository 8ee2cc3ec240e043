/- Texts that belong together, one behind the other: TabFindOwn, Decimals, Prints, RefSixRow, Hexes, SixRun, SixPrint, SixBytesOwn, AddrFour, AddrMay, AddrMap, AddrUnmap, SpaceOwn, SixMath, RefAddrParse, CidrParseDefs, RefCidrParse, SpaceTexts. -/
import Derived.Test.YtgbajagacmfcmaaDoorB7
import Derived.Deep.RegionHeld3
import Derived.Lib.LaidTab
import Derived.WalkSmall
import Derived.RegionTactic
import Derived.BigRegion
import Derived.Deep.Cut
import Derived.Lib.LastIndexByte
import Derived.KernelRfl
/- Contract of Table.Find. -/
namespace Go.Proofs.YtgbajagacmfcmaaDoor
open Go.RowKit
set_option linter.unusedVariables false
set_option maxRecDepth 20000

theorem results_entB {fn : Func} {a b : Tmp} {tmps : Array Value} {W : World} {R Rb : Nat} {f : Int} {bs : List Nat} {n v : Int} {t : Bool} (h : fn.results = #[.cell a 36, .cell b 4]) (ha : tmps.getD a undef = .pointer (some ⟨R, 0, none⟩)) (hb : tmps.getD b undef = .pointer (some ⟨Rb, 0, none⟩)) (hA : EntAt W R f bs n v) (hc : W.cell? ⟨Rb, 0, none⟩ = some (.bool t)) : (results fn tmps).run Tryd.prog W = .ok (.tuple #[entV f bs n v, .bool t]) W := by
  have hl : (loadVar 4 ⟨Rb, 0, none⟩).run Tryd.prog W = .ok (.bool t) W := by
    simp [go_sem, hc]
  rw [Array.getD_eq_getD_getElem?] at ha hb
  simp [results, h, ha, hb, asAddr, loadVar_entT hA, hl]
theorem EntAt.same {w w' : World} {G : Nat} {f : Int} {bs : List Nat} {n v : Int} (h : EntAt w G f bs n v) (hs : w.heap.size ≤ w'.heap.size) (hk : w'.heap[G]? = w.heap[G]?) : EntAt w' G f bs n v :=
  ⟨h.len, Nat.lt_of_lt_of_le h.lt hs, fun j u hu => by rw [World.cell?_of_block (w := w) (a := ⟨G, 0 + j, none⟩) hk]; exact h.range j u hu, fun j hj => by
    rw [World.cell?_of_block (w := w) (a := ⟨G, 0 + j, none⟩) hk, World.frozen?_of_block (w := w) (a := ⟨G, 0 + j, none⟩) hk]; exact h.there j hj⟩
/-- What a Find leaves. -/
def Found (G : Nat) (es : List Ent) (st : Int) (F : List Nat) (o : Option Ent) (w : World) (e : Ending) (w' : World) : Prop :=
  e = .returned (entRet o) ∧ FindInv G es st F w' ∧ Foot [G] [G] w w'
set_option maxRecDepth 100000 in
set_option maxHeartbeats 2000000 in
theorem find_any (G : Nat) (es : List Ent) (st : Int) (F : List Nat) (f : Int) (us : List Nat) (w : World) (hA : TabAt w G es st F) (h16 : us.length = 16) (hlt : ∀ y ∈ us, y < 256) (h0 : 0 ≤ st) (h1 : st ≤ 800000) :
    Calls Tryd.prog 34 #[.pointer (some ⟨G, 0, none⟩), addrV f us] w (Found G es st F (findE es f us) w) := by
  have HA := Lib.hid hA
  have hGl := (hA.lt).2 G hA.lt.1
  have HFL := Lib.hid hA.lt.2
  have H16 := Lib.hid h16
  have HLT := Lib.hid hlt
  obtain ⟨cs, ecs, HB, HBB⟩ := addr_boxed f us w h16
  rw [ecs]
  clear ecs hA h16 hlt
  refine (callsIn_wide (n := 0)).1 (callsIn_of_wp_marks Tryd.func34 rfl trivial (wpIn_wide.2 ?_) rfl)
  simp only [Tryd.ntmps34, List.size_toArray, List.length_cons, List.length_nil, Nat.reduceAdd, Nat.reduceSub, Array.replicate_succ, Array.replicate_zero, List.push_toArray, List.append_toArray, List.nil_append, List.cons_append]
  go_upto_region 1 with fail
  obtain ⟨W0, hW0⟩ : ∃ W0, ((w.alloc (.cells cs 25)).alloc (.cells zE 36)).alloc (.cells #[Value.bool false] 4) = W0 := ⟨_, rfl⟩
  have HZ0 : Hid (W0.heap.size = w.heap.size + 3) := Lib.hid (by rw [← hW0]; simp)
  have HC0 : Hid (W0.heap[w.heap.size + 2]? = some (.cells #[Value.bool false] 4)) := Lib.hid (by rw [← hW0]; have := World.alloc_heap_new ((w.alloc (.cells cs 25)).alloc (.cells zE 36)) (.cells #[Value.bool false] 4); rwa [World.size_alloc, World.size_alloc] at this)
  have HE0 : Hid (EntAt W0 (w.heap.size + 1) 0 (List.replicate 16 0) 0 0) := Lib.hid (by
    have := (entT_zeroed (w.alloc (.cells cs 25))).alloc (.cells #[Value.bool false] 4)
    rw [World.size_alloc, hW0] at this
    exact this)
  have HA0 : Hid (AddrAt W0 w.heap.size f us) := Lib.hid (by rw [← hW0]; exact (HB.out.alloc _).alloc _)
  have HB0 : Hid (Below w.heap.size w W0) := Lib.hid (by rw [← hW0]; exact (HBB.out.alloc HBB.out.size _).alloc (by rw [World.size_alloc, World.size_alloc]; omega) _)
  rw [hW0]
  clear hW0 HB HBB
  have HHV := Lib.hid (having_any G f us W0 H16.out)
  go_wp2_with (refine load_addr_g HA0 _ rfl rfl rfl ?_)
  refine HHV.out.mono ?_
  rintro e w1 ⟨rfl, hbt, hba, hb1⟩
  have HB1 := Lib.hid (chain HB0.out hb1)
  have HS1 : Hid (w.heap.size + 3 ≤ w1.heap.size) := Lib.hid (by have := hb1.size; rw [HZ0.out] at this; exact this)
  have HT1 := Lib.hid (having_tells (HA.out.below HB1.out) hbt hba HLT.out (by rw [HZ0.out]; omega) (by rw [HZ0.out]; omega) h0 h1)
  have HE1 := Lib.hid (HE0.out.below hb1)
  have HC1 : Hid (w1.heap[w.heap.size + 2]? = some (.cells #[Value.bool false] 4)) := Lib.hid ((hb1.block _ (by rw [HZ0.out]; omega)).trans HC0.out)
  clear hbt hba hb1 HHV HE0 HC0 HA0 HB0
  have HIB : Hid (∀ A B, FindInv G es st F A → Below w1.heap.size A B → FindInv G es st F B) := Lib.hid (fun A B ⟨st', h1, h2, h3⟩ hb => ⟨st', h1.keep hb.size (fun k hk => hb.block k (by have := HFL.out k hk; have := HS1.out; omega)), h2, h3⟩)
  have HFB : Hid (∀ A B, Foot [G] [G] w A → Below w1.heap.size A B → Foot [G] [G] w B) := Lib.hid (fun A B h hb => ⟨hb.os.trans h.os, hb.tape.trans h.tape, hb.output.trans h.output, Nat.le_trans h.size hb.size, fun k hk hn => (hb.block k (by have := HS1.out; omega)).trans (h.keep k hk hn), h.new⟩)
  have FIN : ∀ (W' : World) (tm : Array Value) (f' : Int) (bs' : List Nat) (n' v' : Int) (t : Bool), Hid (tm.getD 4 undef = .pointer (some ⟨w.heap.size + 1, 0, none⟩) ∧ tm.getD 5 undef = .pointer (some ⟨w.heap.size + 1 + 1, 0, none⟩) → EntAt W' (w.heap.size + 1) f' bs' n' v' → W'.heap[w.heap.size + 2]? = some (.cells #[Value.bool t] 4) → W'.heap[w1.heap.size]? = some (.deferred (some [])) → FindInv G es st F W' → Foot [G] [G] w W' → Value.tuple #[entV f' bs' n' v', .bool t] = entRet (findE es f us) →
      bodyPostM Fence.wide 0 Tryd.prog Tryd.f34 (Found G es st F (findE es f us) w) .ret { tmps := tm, defers := [{ target := .collected w1.heap.size, args := #[] }] } W') := fun W' tm f' bs' n' v' t => Lib.hid (fun htm hE hC hD hI hF hr => by
    have hS := HS1.out
    refine ⟨by simp, .inl ⟨_, _, rfl, run_takeDeferred hD, ?_⟩⟩
    have hb : Below w1.heap.size W' (W'.putObj w1.heap.size (.deferred none)) := below_put _ (Nat.le_refl _)
    refine ⟨_, results_entB (R := w.heap.size + 1) (Rb := w.heap.size + 2) rfl htm.1 htm.2 (hE.same hb.size (hb.block _ (by omega))) ?_, by rw [hr], HIB.out _ _ hI hb, HFB.out _ _ hF hb⟩
    rw [hb.cell (p := ⟨w.heap.size + 2, 0, none⟩) (by show w.heap.size + 2 < _; omega), cell_of_row _ _ 0 _ _ _ hC]; rfl)
  go_wp2_with fail
  refine range_one (gf := 62) (lb := #[.pointer (some ⟨W0.heap.size, 0, none⟩), .pointer (some ⟨W0.heap.size + 1, 0, none⟩)]) rfl (enters_of Tryd.func62 (by kernel_rfl) rfl) (findE es f us) encE G (by have := HS1.out; omega) (FindInv G es st F) w1 HT1.out (Below.refl _ _) [w.heap.size + 1, w.heap.size + 2] (by have := HS1.out; simp; omega)
    (fun W => ∃ x, findE es f us = some x ∧ EntAt W (w.heap.size + 1) x.f x.b (x.n : Int) x.v ∧ W.heap[w.heap.size + 2]? = some (.cells #[Value.bool true] 4) ∧ FindInv G es st F W ∧ Foot [G] [G] w W)
    (fun A B ⟨x, h1, h2, h3, h4, h5⟩ hb => ⟨x, h1, h2.same hb.size (hb.block _ (by have := HS1.out; omega)), (hb.block _ (by have := HS1.out; omega)).trans h3, HIB.out A B h4 hb, HFB.out A B h5 hb⟩)
    HIB.out ?round ?done ?stop
  case round =>
    intro l x W hx hl hlW hinv hsame hos htp hout
    have HX := Lib.hid hx
    have HGX : Hid x.Good := Lib.hid (by
      obtain ⟨v, rfl, _, hR, _, _⟩ := HA.out
      exact hR.2.1 x ((findE_best es f us).2 x hx).1)
    have H16x := Lib.hid HGX.out.1.len
    rw [show encE x = entV x.f x.b (x.n : Int) x.v from rfl]
    have HZ := Lib.hid (entT_zeroed W)
    have HIV := Lib.hid hinv
    have HSM := Lib.hid hsame
    have HO := Lib.hid (And.intro hos (And.intro htp hout))
    have HLL := Lib.hid hl
    have HLW := Lib.hid hlW
    clear hx hinv hsame hos htp hout hl hlW
    refine round_region rfl (fun ⟨_, _, h⟩ => h) ?_
    simp only [List.setIfInBounds_toArray, List.set_cons_succ, List.set_cons_zero]
    go_wp2_with (refine store_entT HZ _ _ H16x rfl rfl rfl rfl (fun W3 HW3 HE3 => ?_))
    refine ⟨below_newT HW3, fun w₂ hf2 => ?_⟩
    have HB3 := Lib.hid (below_newT HW3)
    have HX2 : Hid (w₂.rangeAt W.heap.size 0 (entL x.f x.b (x.n : Int) x.v)) := Lib.hid (range_foot hf2 HE3.out.range HE3.out.lt (by have := HLW.out; simp; omega))
    have HWW : Hid (W.heap.size < w₂.heap.size) := Lib.hid (Nat.lt_of_lt_of_le HE3.out.lt hf2.size)
    have HWS : Hid (w1.heap.size < W.heap.size) := Lib.hid (by have := HLL.out; have := HLW.out; omega)
    have HK2 : Hid (∀ j, j < w1.heap.size → j ≠ G → w₂.heap[j]? = w1.heap[j]?) := Lib.hid (fun j hj hn => by
      have h1 := HLL.out
      have h2 := HWS.out
      exact ((hf2.keep j (by have := HB3.out.size; omega) (by simp; omega)).trans (HB3.out.block j (by omega))).trans (HSM.out j hj hn))
    have HBL : Hid (Below w1.heap.size W w₂) := Lib.hid ((HB3.out.mono (by have := HWS.out; omega)).trans (hf2.below (by have := HLL.out; simp; omega) (by have := HWS.out; have := HB3.out.size; omega)))
    have HI2 := Lib.hid (HIB.out W w₂ HIV.out HBL.out)
    have HO2 : Hid (w₂.os = w.os ∧ w₂.tape = w.tape ∧ w₂.output = w.output) := Lib.hid ⟨HBL.out.os.trans (HO.out.1.trans HB1.out.os), HBL.out.tape.trans (HO.out.2.1.trans HB1.out.tape), HBL.out.output.trans (HO.out.2.2.trans HB1.out.output)⟩
    have HE2 := Lib.hid (HE1.out.same (w' := w₂) (by have := HWS.out; have := HWW.out; omega) (HK2.out _ (by have := HS1.out; omega) (by omega)))
    have HC2 : Hid (w₂.heap[w.heap.size + 2]? = some (.cells #[Value.bool false] 4)) := Lib.hid ((HK2.out _ (by have := HS1.out; omega) (by omega)).trans HC1.out)
    have HFW : Hid (Foot [G] [G] w w₂) := Lib.hid ⟨HO2.out.1, HO2.out.2.1, HO2.out.2.2, by have := HB1.out.size; have := HWS.out; have := HWW.out; omega, fun k hk hn => (HK2.out k (by have := HB1.out.size; omega) (by simpa using hn)).trans (HB1.out.block k hk), fun k hk => .inl hk⟩
    clear HZ HW3 HE3 hf2 HB3 HIV HSM HO HBL
    have L16 : Hid ((List.replicate 16 0 : List Nat).length = 16) := Lib.hid rfl
    have HFIN : Hid (∀ V, V = w₂.setCells (w.heap.size + 1) 0 (entL x.f x.b (x.n : Int) x.v) → EntAt V (w.heap.size + 1) x.f x.b (x.n : Int) x.v → 
        (Foot [w.heap.size + 1, w.heap.size + 2] [w.heap.size + 1, w.heap.size + 2] w₂ (V.setCell ⟨w.heap.size + 1 + 1, 0, none⟩ (.bool true)) ∧ ∃ x, findE es f us = some x ∧ EntAt (V.setCell ⟨w.heap.size + 1 + 1, 0, none⟩ (.bool true)) (w.heap.size + 1) x.f x.b (x.n : Int) x.v ∧ (V.setCell ⟨w.heap.size + 1 + 1, 0, none⟩ (.bool true)).heap[w.heap.size + 2]? = some (.cells #[Value.bool true] 4) ∧ FindInv G es st F (V.setCell ⟨w.heap.size + 1 + 1, 0, none⟩ (.bool true)) ∧ Foot [G] [G] w (V.setCell ⟨w.heap.size + 1 + 1, 0, none⟩ (.bool true)))) := Lib.hid (fun V hV hE => by
      have f1 : Foot [w.heap.size + 1] [w.heap.size + 1] w₂ V := by rw [hV]; exact foot_cells _ _ _
      have f2 := foot_cell V (w.heap.size + 2) 0 (.bool true)
      have b1 : Below (w.heap.size + 1) w₂ (V.setCell ⟨w.heap.size + 2, 0, none⟩ (.bool true)) := (f1.below (by simp) (by have := HWW.out; have := HWS.out; have := HS1.out; omega)).trans (f2.below (by simp) (by have := f1.size; have := HWW.out; have := HWS.out; have := HS1.out; omega))
      refine ⟨⟨b1.os, b1.tape, b1.output, b1.size, fun k hk hn => ?_, fun k hk => .inl hk⟩, x, HX.out, ?_, ?_, ?_, ?_⟩
      · simp at hn
        exact (f2.keep k (by have := f1.size; omega) (by simp; omega)).trans (f1.keep k hk (by simp; omega))
      · exact hE.same f2.size (f2.keep _ hE.lt (by simp))
      · refine cell1_set (u := .bool false) ?_ _
        exact (f1.keep _ (by have := HWW.out; have := HWS.out; have := HS1.out; omega) (by simp)).trans HC2.out
      · obtain ⟨st', h1, h2, h3⟩ := HI2.out
        exact ⟨st', h1.keep b1.size (fun k hk => b1.block k (by have := HFL.out k hk; omega)), h2, h3⟩
      · exact ⟨b1.os.trans HFW.out.os, b1.tape.trans HFW.out.tape, b1.output.trans HFW.out.output, Nat.le_trans HFW.out.size b1.size, fun k hk hn => (b1.block k (by omega)).trans (HFW.out.keep k hk hn), fun k hk => .inl hk⟩)
    have hcb : w₂.cell? ⟨w.heap.size + 1 + 1, 0, none⟩ = some (.bool false) := by rw [cell_of_row _ _ 0 _ _ _ HC2.out]; rfl
    have hfb : w₂.frozen? ⟨w.heap.size + 1 + 1, 0, none⟩ = false := by unfold World.frozen?; rw [HC2.out]; rfl
    refine wpIn_block (wpIn_seq ?_)
    refine round_region rfl (fun ⟨_, _, h⟩ => by cases h.1) ?_
    go_wp2_with (first | refine load_entT_o H16x HX2 _ rfl rfl rfl ?_ | (refine store_entT HE2 _ _ H16x rfl rfl rfl rfl (fun V HV HEV => ?_); have hcb2 : V.cell? ⟨w.heap.size + 1 + 1, 0, none⟩ = some (.bool false) := (by rw [HV.out, World.cell?_setCells_out _ _ _ _ _ (fun h _ => absurd h (by simp))]; exact hcb); have hfb2 : V.frozen? ⟨w.heap.size + 1 + 1, 0, none⟩ = false := (by rw [HV.out, World.frozen?_setCells]; exact hfb)))
    refine wpIn_ret ?_
    exact ⟨rfl, HFIN.out V HV.out HEV.out⟩
  case done =>
    intro W hn hinv hsame hsz hos htp hout hD
    have HNN := Lib.hid hn
    have HIV := Lib.hid hinv
    have HK2 : Hid (∀ j, j < w1.heap.size → j ≠ G → W.heap[j]? = w1.heap[j]?) := Lib.hid hsame
    have HSZ := Lib.hid hsz
    have HO2 : Hid (W.os = w.os ∧ W.tape = w.tape ∧ W.output = w.output) := Lib.hid ⟨hos.trans HB1.out.os, htp.trans HB1.out.tape, hout.trans HB1.out.output⟩
    have HDF := Lib.hid hD
    have HE2 := Lib.hid (HE1.out.same (w' := W) hsz (HK2.out _ (by have := HS1.out; omega) (by omega)))
    have HC2 : Hid (W.heap[w.heap.size + 2]? = some (.cells #[Value.bool false] 4)) := Lib.hid ((HK2.out _ (by have := HS1.out; omega) (by omega)).trans HC1.out)
    have HFW : Hid (Foot [G] [G] w W) := Lib.hid ⟨HO2.out.1, HO2.out.2.1, HO2.out.2.2, by have := HB1.out.size; omega, fun k hk hn => (HK2.out k (by have := HB1.out.size; omega) (by simpa using hn)).trans (HB1.out.block k hk), fun k hk => .inl hk⟩
    have L16 : Hid ((List.replicate 16 0 : List Nat).length = 16) := Lib.hid rfl
    have hcb : W.cell? ⟨w.heap.size + 1 + 1, 0, none⟩ = some (.bool false) := by rw [cell_of_row _ _ 0 _ _ _ HC2.out]; rfl
    have hfb : W.frozen? ⟨w.heap.size + 1 + 1, 0, none⟩ = false := by unfold World.frozen?; rw [HC2.out]; rfl
    clear hn hinv hsame hsz hos htp hout hD
    go_wp2_with (first | refine build_entT0 rfl rfl ?_ | (refine store_entT HE2 _ _ L16 rfl rfl rfl rfl (fun V HV HEV => ?_); have hcb2 : V.cell? ⟨w.heap.size + 1 + 1, 0, none⟩ = some (.bool false) := (by rw [HV.out, World.cell?_setCells_out _ _ _ _ _ (fun h _ => absurd h (by simp))]; exact hcb); have hfb2 : V.frozen? ⟨w.heap.size + 1 + 1, 0, none⟩ = false := (by rw [HV.out, World.frozen?_setCells]; exact hfb)))
    have f1 : Foot [w.heap.size + 1] [w.heap.size + 1] W V := by rw [HV.out]; exact foot_cells _ _ _
    have f2 := foot_cell V (w.heap.size + 2) 0 (.bool false)
    have hS := HS1.out
    have hsz := HSZ.out
    have b1 : Below (w.heap.size + 1) W (V.setCell ⟨w.heap.size + 2, 0, none⟩ (.bool false)) := (f1.below (by simp) (by omega)).trans (f2.below (by simp) (by have := f1.size; omega))
    refine (FIN _ _ 0 (List.replicate 16 0) 0 0 false).out ⟨rfl, rfl⟩ (HEV.out.same f2.size (f2.keep _ HEV.out.lt (by simp))) ?_ ?_ ?_ ?_ ?_
    · refine cell1_set (u := .bool false) ?_ _
      exact (f1.keep _ (by omega) (by simp)).trans HC2.out
    · have hlt := (Array.getElem?_eq_some_iff.1 HDF.out).1
      exact ((f2.keep _ (by have := f1.size; omega) (by simp; omega)).trans (f1.keep _ hlt (by simp; omega))).trans HDF.out
    · obtain ⟨st', h1, h2, h3⟩ := HIV.out
      exact ⟨st', h1.keep b1.size (fun k hk => b1.block k (by have := HFL.out k hk; omega)), h2, h3⟩
    · exact ⟨b1.os.trans HFW.out.os, b1.tape.trans HFW.out.tape, b1.output.trans HFW.out.output, Nat.le_trans HFW.out.size b1.size, fun k hk hn => (b1.block k (by omega)).trans (HFW.out.keep k hk hn), fun k hk => .inl hk⟩
    · rw [HNN.out]; rfl
  case stop =>
    rintro x W hx ⟨y, hy, hE, hC, hI, hF⟩ hD
    exact (FIN W _ y.f y.b (y.n : Int) y.v true).out ⟨rfl, rfl⟩ hE hC hD hI hF (by rw [hy]; rfl)
end Go.Proofs.YtgbajagacmfcmaaDoor
/- The contract of text.Decimal: a number's decimal digits, by strconv's own. -/
namespace Go.Proofs.YtgbajagacmfcmaaDoor
open Go.RowKit
set_option linter.unusedVariables false
set_option maxRecDepth 20000

theorem below_grow (w : World) (k : Nat) (os : Array Obj) : Below w.heap.size w (Sort.grow (w.drewN k) os) :=
  ⟨rfl, rfl, rfl, by
    show w.heap.size ≤ (w.heap ++ os).size
    simp, fun j hj => by
    show (w.heap ++ os)[j]? = w.heap[j]?
    rw [Array.getElem?_append_left hj]⟩

end Go.Proofs.YtgbajagacmfcmaaDoor
/- Contracts of four.Bytes and four.Print: an address's bytes and its text. -/
namespace Go.Proofs.YtgbajagacmfcmaaDoor
open Go.RowKit
set_option linter.unusedVariables false
set_option maxRecDepth 20000

set_option maxRecDepth 100000 in
set_option maxHeartbeats 1000000 in
theorem bytes_any (a b c d n : Nat) (w : World) (ha : a < 256) (hb : b < 256) (hc : c < 256) (hd : d < 256) (hn : n = num4 a b c d) :
    Calls Tryd.prog 67 #[.int .u32 (n : Int)] w fun e w' => e = .returned (arr4 a b c d) ∧ Below w.heap.size w w' := by
  unfold num4 at hn
  have hle : n ≤ 4294967295 := by omega
  have e1 : (n : Int) / 16777216 = (a : Int) := by omega
  have e2 : (n : Int) / 65536 % 256 = (b : Int) := by omega
  have e3 : (n : Int) / 256 % 256 = (c : Int) := by omega
  have e4 : (n : Int) % 256 = (d : Int) := by omega
  clear hn
  go_enter Tryd.func67, Tryd.ntmps67
  go_wp2
  refine bodyPost_ret (v := arr4 a b c d) (by simp [results, Tryd.results67, go_sem, arr4, e2, e3, e4]) rfl ⟨rfl, ?_⟩
  exact (Below.refl _ _).alloc (Nat.le_refl _) _
/-- The address's text, byte by byte. -/
def prT (a b c d : Nat) : Nat → List UInt8
  | 0 => []
  | 1 => dec a
  | 2 => dec a ++ 46 :: dec b
  | 3 => dec a ++ 46 :: (dec b ++ 46 :: dec c)
  | _ => dec a ++ 46 :: (dec b ++ 46 :: (dec c ++ 46 :: dec d))
theorem of_num (a b c d n : Nat) (w : World) (ha : a < 256) (hb : b < 256) (hc : c < 256) (hd : d < 256) (hn : n = num4 a b c d) :
    Calls Tryd.prog 52 #[arr4 a b c d] w fun e w' => e = .returned (.int .u32 (n : Int)) ∧ Below w.heap.size w w' := by
  have := of_any a b c d w ha hb hc hd
  rw [show ((a * 256 + b) * 256 + c) * 256 + d = n from hn.symm] at this
  exact this
theorem strict_at (s : ByteArray) (r : Option Nat) (w : World) (hs : s.size ≤ 1000000) (hr : strictB s = r) :
    Calls Tryd.prog 79 #[.string s] w fun e w' => e = .returned (strictRet r) ∧ Below w.heap.size w w' := by
  have := strict_any s w hs
  rw [hr] at this
  exact this
end Go.Proofs.YtgbajagacmfcmaaDoor
/- Contracts of the reference's row and Print of layer 3. -/
namespace Go.Proofs.YtgbajagacmfcmaaDoor
open Go.RowKit
set_option linter.unusedVariables false
set_option maxRecDepth 20000

/-- A group's text. -/
def gS (n : Nat) : ByteArray := ofL (groupL n)
theorem gS_size (n : Nat) (h : n < 65536) : (gS n).size ≤ 4 := by
  unfold gS
  rw [ofL_size]
  exact (groupL_length n h).2
/-- Groups with colons between. -/
def rowS (l : List Nat) : ByteArray := joinTo (l.map gS) { data := #[58] } l.length
theorem joinTo_small (l : List Nat) (h : ∀ x ∈ l, x < 65536) : ∀ k, (joinTo (l.map gS) { data := #[58] } k).size ≤ 5 * k
  | 0 => Nat.le_refl _
  | k + 1 => by
    have ih := joinTo_small l h k
    have hx : ((l.map gS).getD k { data := #[] }).size ≤ 4 := by
      rw [List.getD_eq_getElem?_getD]
      cases hk : (l.map gS)[k]? with
      | none => exact Nat.zero_le _
      | some p =>
        rw [List.getElem?_map] at hk
        cases hl : l[k]? with
        | none => rw [hl] at hk; cases hk
        | some x =>
          rw [hl] at hk
          have := Option.some.inj hk
          subst this
          exact gS_size x (h x (List.mem_of_getElem? hl))
    rw [joinTo]
    split
    · rw [ByteArray.size_append, ByteArray.size_append]
      show _ + 1 + _ ≤ _
      omega
    · rw [ByteArray.size_append]
      omega
theorem rowS_small (l : List Nat) (h : ∀ x ∈ l, x < 65536) : (rowS l).size ≤ 5 * l.length := joinTo_small l h _

theorem own_rows {w : World} {B : Nat} {v : Value} {l : List ByteArray} (h : w.ownsRow B 9 1 v l.length (l.map Value.string)) :
    (v = .slice none 0 0 ∧ l.length = 0) ∨ ∃ g cap, v = .slice (some ⟨g, 0, none⟩) l.length cap ∧ StrRow w g l.length cap l := by
  have hh := h
  rcases h.2 with ⟨rfl, h0⟩ | ⟨g, cap, cur, rfl, hB, hg, h1, h2, _⟩
  · exact .inl ⟨rfl, h0⟩
  · refine .inr ⟨g, cap, rfl, rfl, h1, h2, ?_, fun i hi => ?_⟩
    · rcases Nat.lt_or_ge g w.heap.size with h | h
      · exact h
      · rw [Array.getElem?_eq_none h] at hg; cases hg
    · rw [own_cells hh i hi, List.getD_eq_getElem?_getD, List.getElem?_eq_getElem hi]
      rfl
/-- What a part of the groups is printed as. -/
def RowFact (gs : List Nat) (o n c : Nat) (X : ByteArray) : Prop :=
  n ≤ c ∧ c ≤ 8 ∧ ∃ l : List Nat, l.length = n ∧ rowS l = X ∧ (∀ x ∈ l, x < 65536) ∧ ∀ j, j < n → o + j < 8 ∧ gs.getD (o + j) 0 = l.getD j 0
/-- The printed text. -/
def printB (gs : List Nat) : ByteArray :=
  if mappedB gs then ofL [58, 58, 102, 102, 102, 102, 58] ++ text4 (gs.getD 6 0 / 256) (gs.getD 6 0 % 256) (gs.getD 7 0 / 256) (gs.getD 7 0 % 256) else
  if (runB gs).2 = 0 then rowS gs else rowS (gs.take (runB gs).1) ++ ofL [58, 58] ++ rowS (gs.drop ((runB gs).1 + (runB gs).2))

end Go.Proofs.YtgbajagacmfcmaaDoor
/- Contracts of strconv.FormatUint at base 16, and of six.digits: a group's digits. -/
namespace Go.Proofs.YtgbajagacmfcmaaDoor
open Go.RowKit
set_option linter.unusedVariables false
set_option maxRecDepth 20000

/-- The table of math/bits that tells 16's zeros holds its 4. -/
def BruIs (w : World) : Prop := w.cell? ⟨4, 15, none⟩ = some (.int .u8 4)
theorem BruIs.below {w w' : World} (h : BruIs w) (hb : Below w.heap.size w w') : BruIs w' := by
  unfold BruIs at *
  have hlt : 4 < w.heap.size := by
    rcases Nat.lt_or_ge 4 w.heap.size with h2 | h2
    · exact h2
    · simp [World.cell?, Array.getElem?_eq_none h2] at h
  rw [hb.cell (p := ⟨4, 15, none⟩) hlt]
  exact h

set_option maxHeartbeats 400000 in
theorem tz64_16 (w : World) (h : BruIs w) :
    Calls Tryd.prog 118 #[.int .u64 16] w fun e w' => e = .returned (.int .i64 4) ∧ w = w' := by
  have hc : w.cell? ⟨4, 15, none⟩ = some (.int .u8 4) := h
  clear h
  have hx : IntKind.u64.wrap (bits BinOp.and IntKind.u64 16 (IntKind.u64.wrap (-16)) * 285870213051353865) / 288230376151711744 = 15 := by decide +kernel
  go_enter Tryd.func118, Tryd.ntmps118
  go_wp2
  go_ret
  exact ⟨rfl, rfl⟩
set_option maxHeartbeats 400000 in
theorem tz_16 (w : World) (h : BruIs w) :
    Calls Tryd.prog 116 #[.int .u64 16] w fun e w' => e = .returned (.int .i64 4) ∧ w = w' := by
  go_enter Tryd.func116, Tryd.ntmps116
  go_wp2_with fail
  refine (tz64_16 _ h).mono ?_
  rintro e w' ⟨rfl, rfl⟩
  go_wp2_with fail
  go_ret
  exact ⟨rfl, rfl⟩
set_option maxHeartbeats 400000 in
theorem pow_16 (w : World) :
    Calls Tryd.prog 115 #[.int .i64 16] w fun e w' => e = .returned (.bool true) ∧ w = w' := by
  go_enter Tryd.func115, Tryd.ntmps115
  go_wp2
  go_ret
  exact ⟨rfl, rfl⟩
/-- An array of n integers of kind k lies at B. -/
structure ArrI (k : IntKind) (n : Nat) (w : World) (B : Nat) (l : List Nat) : Prop where
  len : l.length = n
  lt : B < w.heap.size
  cells : ∀ j, j < n → w.cell? ⟨B, j, none⟩ = some (.int k ((l.getD j 0 : Nat) : Int))
  live : ∀ j, j < n → w.frozen? ⟨B, j, none⟩ = false
theorem ArrI.below {k : IntKind} {n : Nat} {w w' : World} {B : Nat} {l : List Nat} (h : ArrI k n w B l) (hb : Below w.heap.size w w') : ArrI k n w' B l :=
  ⟨h.len, Nat.lt_of_lt_of_le h.lt hb.size, fun j hj => by rw [hb.cell (p := ⟨B, j, none⟩) h.lt]; exact h.cells j hj, fun j hj => by rw [hb.frozen (p := ⟨B, j, none⟩) h.lt]; exact h.live j hj⟩
theorem ArrI.set {k : IntKind} {n : Nat} {w : World} {B i : Nat} {l : List Nat} (h : ArrI k n w B l) (hi : i < n) (v : Nat) : ArrI k n (w.setCell ⟨B, i, none⟩ (.int k ((v : Nat) : Int))) B (l.set i v) := by
  refine ⟨by simp [h.len], by simpa using h.lt, ?_, ?_⟩
  · intro j hj
    by_cases e : j = i
    · subst e
      rw [World.cell?_setCell_same _ _ _ (h.cells j hj), List.getD_eq_getElem?_getD, List.getElem?_set_self (by rw [h.len]; exact hj)]
      rfl
    · rw [World.cell?_setCell_other _ _ _ _ (by intro h2; injection h2 with _ h3 _; exact e h3.symm), h.cells j hj, List.getD_eq_getElem?_getD, List.getD_eq_getElem?_getD, List.getElem?_set_ne (by omega)]
  · intro j hj
    rw [World.frozen?_setCell]
    exact h.live j hj
theorem ArrI.other {k : IntKind} {n : Nat} {w : World} {B B' i : Nat} {l : List Nat} (h : ArrI k n w B l) (hB : B' ≠ B) (u : Value) : ArrI k n (w.setCell ⟨B', i, none⟩ u) B l := by
  refine ⟨h.len, by simpa using h.lt, ?_, ?_⟩
  · intro j hj
    rw [World.cell?_setCell_other _ _ _ _ (by intro h2; injection h2 with h3 _ _; exact hB h3)]
    exact h.cells j hj
  · intro j hj
    rw [World.frozen?_setCell]
    exact h.live j hj
theorem ArrI.of {k : IntKind} {n : Nat} (w : World) (cs : Array Value) (t : TypeId) (l : List Nat) (h : cs.toList = l.map fun x => Value.int k ((x : Nat) : Int)) (hn : l.length = n) : ArrI k n (w.alloc (.cells cs t)) w.heap.size l := by
  refine ⟨hn, by simp, ?_, ?_⟩
  · intro j hj
    have e : cs[j]? = (l.map fun x => Value.int k ((x : Nat) : Int))[j]? := by rw [← h]; simp
    rw [World.cell?_alloc_new, e, List.getElem?_map, List.getD_eq_getElem?_getD, List.getElem?_eq_getElem (by omega)]
    rfl
  · intro j hj
    exact World.frozen?_alloc_new _ _ _ _

theorem mask_16 (v : Nat) (h : v < 65536) : bits BinOp.and IntKind.u64 (v : Int) 15 = ((v % 16 : Nat) : Int) := by
  have := bits_mask .u64 16 (by decide) (fun n h0 h1 => by rw [IntKind.wrap_u64]; omega) 4 (by decide) (v : Int) (by omega) (by omega)
  rw [show ((2 : Int) ^ 4 - 1) = 15 by decide, show ((2 : Int) ^ 4) = 16 by decide] at this
  rw [this]
  omega
theorem zeros65 : Tryd.zeroCells148.toList = (List.replicate 65 0).map fun x => Value.int .u8 ((x : Nat) : Int) := by kernel_rfl
theorem alnum_at (d : Nat) (h : d < 16) : ∃ x : Nat, (hexc d).toNat = x ∧ ∀ hh, ((({ data := #[48, 49, 50, 51, 52, 53, 54, 55, 56, 57, 97, 98, 99, 100, 101, 102, 103, 104, 105, 106, 107, 108, 109, 110, 111, 112, 113, 114, 115, 116, 117, 118, 119, 120, 121, 122] } : ByteArray)[d]'hh).toNat) = x := by
  refine ⟨_, rfl, ?_⟩
  have hd : d = 0 ∨ d = 1 ∨ d = 2 ∨ d = 3 ∨ d = 4 ∨ d = 5 ∨ d = 6 ∨ d = 7 ∨ d = 8 ∨ d = 9 ∨ d = 10 ∨ d = 11 ∨ d = 12 ∨ d = 13 ∨ d = 14 ∨ d = 15 := by omega
  rcases hd with rfl | rfl | rfl | rfl | rfl | rfl | rfl | rfl | rfl | rfl | rfl | rfl | rfl | rfl | rfl | rfl <;> (intro hh; rfl)
theorem drop_set (l : List Nat) (q x : Nat) (T : List UInt8) (hq : q < l.length) (h : l.drop (q + 1) = T.map fun c => c.toNat) : (l.set q x).drop q = x :: T.map fun c => c.toNat := by
  rw [List.drop_eq_getElem_cons (by simpa using hq), List.drop_set_of_lt (by omega), h]
  simp

set_option maxRecDepth 100000 in
set_option maxHeartbeats 2000000 in
theorem formatBits_16 (n : Nat) (w : World) (hn : n < 65536) (h : BruIs w) :
    Calls Tryd.prog 109 #[.slice none 0 0, .int .u64 (n : Int), .int .i64 16, .bool false, .bool false] w fun e w' => e = .returned (.tuple #[.slice none 0 0, .string (gS n)]) ∧ Below w.heap.size w w' := by
  have hA := ArrI.of w Tryd.zeroCells148 148 (List.replicate 65 0) zeros65 (n := 65) (by decide)
  have b0 : Below w.heap.size w (w.alloc (.cells Tryd.zeroCells148 148)) := (Below.refl _ _).alloc (Nat.le_refl _) _
  have hB := h.below b0
  clear h
  go_enter Tryd.func109, Tryd.ntmps109
  go_wp2_with fail
  generalize w.alloc (.cells Tryd.zeroCells148 148) = W at *
  have HA := Lib.hid hA
  have HB := Lib.hid hB
  clear hA hB
  refine (pow_16 _).mono ?_
  rintro e w' ⟨rfl, rfl⟩
  go_wp2_with fail
  refine (tz_16 _ HB.out).mono ?_
  rintro e w' ⟨rfl, rfl⟩
  go_wp2_with fail
  go_loopw [1, 13] (fun u i wr => ∃ (v k q : Nat) (l : List Nat) (T : List UInt8), v < 65536 ∧ q + 1 + k = 65 ∧ T.length = k ∧ k ≤ 3 ∧ u = .int .u64 (v : Int) ∧ i = .int .i64 ((q : Int) + 1) ∧ Hid (ArrI .u8 65 wr w.heap.size l) ∧ Below w.heap.size w wr ∧ Hid (l.drop (q + 1) = T.map fun c => c.toNat) ∧ Hid (groupL n = groupL v ++ T)) (fun u _ _ => (intOf u).toNat)
  case atStart => exact ⟨n, 0, 64, List.replicate 65 0, [], hn, rfl, rfl, by decide, rfl, rfl, HA, b0, Lib.hid (by rfl), Lib.hid (by simp)⟩
  case round =>
    obtain ⟨v, k, q, l, T, hv, hq, hT, hk3, rfl, rfl, HAr, hbel, HD, HG⟩ := hrel
    have hgc := HAr.out.cells q (by omega)
    have hgl := HAr.out.live q (by omega)
    have q0 : (0 : Int) ≤ (q : Int) := by omega
    have q1 : (q : Int) ≤ 65 := by omega
    have q2 : ¬ 65 = q := by omega
    by_cases h16 : v < 16
    · have hv16 : (v : Int) < 16 := by omega
      obtain ⟨x, hx, ha⟩ := alnum_at v h16
      have hset := HAr.out.set (i := q) (by omega) x
      have hcv : (convert 100 9 (.slice (some ⟨w.heap.size, q, none⟩) (65 - q) (65 - q))).run Tryd.prog (wr.setCell ⟨w.heap.size, q, none⟩ (.int .u8 (x : Int))) = .ok (.string (gS n)) (wr.setCell ⟨w.heap.size, q, none⟩ (.int .u8 (x : Int))) := by
        have e0 : groupL n = hexc v :: T := by rw [HG.out, groupL_one h16]; rfl
        have hl : 65 - q = (groupL n).length := by rw [e0, List.length_cons]; omega
        rw [hl]
        refine run_convert_bytes_back (P := Tryd.prog) _ 100 9 5 ⟨w.heap.size, q, none⟩ _ (groupL n) Tryd.underlying100 Tryd.underlying5 Tryd.underlying9 (fun j hj => ?_)
        have e1 : (⟨w.heap.size, q, none⟩ : Addr).add j = ⟨w.heap.size, q + j, none⟩ := by
          unfold Addr.add
          split <;> simp_all
        rw [e1, hset.cells (q + j) (by omega)]
        have e2 := drop_set l q x T (by rw [HAr.out.len]; omega) HD.out
        have e3 : (l.set q x).getD (q + j) 0 = ((l.set q x).drop q).getD j 0 := by
          rw [List.getD_eq_getElem?_getD, List.getD_eq_getElem?_getD, List.getElem?_drop]
        rw [e3, e2]
        have e4 : x :: (T.map fun c => c.toNat) = (groupL n).map fun c => c.toNat := by rw [e0, List.map_cons, hx]
        rw [e4, List.getD_eq_getElem?_getD, List.getElem?_map, List.getElem?_eq_getElem hj]
        rfl
      have hb2 := hbel.setCell (p := ⟨w.heap.size, q, none⟩) (Nat.le_refl _) (.int .u8 (x : Int))
      clear hset
      go_wp2_with fail
      go_ret2
      exact ⟨rfl, hb2⟩
    · have hm := mask_16 v hv
      obtain ⟨d, ed⟩ : ∃ d, v % 16 = d := ⟨_, rfl⟩
      have hd : d < 16 := by omega
      have hi16 : (16 : Int) ≤ (v : Int) := by omega
      rw [ed] at hm
      obtain ⟨x, hx, ha⟩ := alnum_at d hd
      have e0 : groupL n = groupL (v / 16) ++ hexc d :: T := by rw [HG.out, groupL_more h16, ed]; simp
      have hl4 := (groupL_length n hn).2
      have hl1 := (groupL_length (v / 16) (by omega)).1
      rw [e0, List.length_append, List.length_cons] at hl4
      have HS := Lib.hid (HAr.out.set (i := q) (by omega) x)
      have HE := Lib.hid e0
      have HX := Lib.hid hx
      have HDv := Lib.hid ed
      clear e0 hx ed
      go_wp2_with fail
      go_roundw
      case rel => exact ⟨v / 16, k + 1, q - 1, l.set q x, hexc d :: T, by omega, by omega, by simp [hT], by omega, by first | rfl | (congr 1; omega), by congr 1; omega, HS, hbel.setCell (p := ⟨w.heap.size, q, none⟩) (Nat.le_refl _) _, Lib.hid (by
        rw [show q - 1 + 1 = q by omega, drop_set l q x T (by rw [HAr.out.len]; omega) HD.out, List.map_cons, HX.out]), HE⟩
      case measure => simp [intOf]; omega

set_option maxHeartbeats 1000000 in
theorem fmtUint_16 (n : Nat) (w : World) (hn : n < 65536) (h : BruIs w) :
    Calls Tryd.prog 101 #[.int .u64 (n : Int), .int .i64 16] w fun e w' => e = .returned (.string (gS n)) ∧ Below w.heap.size w w' := by
  have HB := Lib.hid h
  clear h
  go_enter Tryd.func101, Tryd.ntmps101
  go_wp2_with fail
  refine (formatBits_16 n _ hn HB.out).mono ?_
  rintro e w1 ⟨rfl, hb⟩
  go_wp2_with fail
  go_ret
  exact ⟨rfl, hb⟩
set_option maxHeartbeats 1000000 in
theorem formatUint_16 (n : Nat) (w : World) (hn : n < 65536) (h : BruIs w) :
    Calls Tryd.prog 99 #[.int .u64 (n : Int), .int .i64 16] w fun e w' => e = .returned (.string (gS n)) ∧ Below w.heap.size w w' := by
  have HB := Lib.hid h
  clear h
  go_enter Tryd.func99, Tryd.ntmps99
  go_wp2_with fail
  refine (fmtUint_16 n _ hn HB.out).mono ?_
  rintro e w1 ⟨rfl, hb⟩
  go_wp2_with fail
  go_ret
  exact ⟨rfl, hb⟩
set_option maxHeartbeats 1000000 in
theorem digits_any (n : Nat) (w : World) (hn : n < 65536) (h : BruIs w) :
    Calls Tryd.prog 96 #[.int .u16 (n : Int)] w fun e w' => e = .returned (.string (gS n)) ∧ Below w.heap.size w w' := by
  have HB := Lib.hid h
  clear h
  go_enter Tryd.func96, Tryd.ntmps96
  go_wp2_with fail
  refine (formatUint_16 n _ hn HB.out).mono ?_
  rintro e w1 ⟨rfl, hb⟩
  go_wp2_with fail
  go_ret
  exact ⟨rfl, hb⟩
end Go.Proofs.YtgbajagacmfcmaaDoor
/- Contracts of six.Run, six.mapped and six.printed. -/
namespace Go.Proofs.YtgbajagacmfcmaaDoor
open Go.RowKit
set_option linter.unusedVariables false
set_option maxRecDepth 20000

/-- What the landed Run holds behind k groups: where the longest row begins, how long it is, how many zeros stand last. -/
def ownTo (gs : List Nat) : Nat → Nat × Nat × Nat
  | 0 => (0, 0, 0)
  | k + 1 => if gs.getD k 0 = 0 then (if (ownTo gs k).2.1 < (ownTo gs k).2.2 + 1 then (k - (ownTo gs k).2.2, (ownTo gs k).2.2 + 1, (ownTo gs k).2.2 + 1) else ((ownTo gs k).1, (ownTo gs k).2.1, (ownTo gs k).2.2 + 1)) else ((ownTo gs k).1, (ownTo gs k).2.1, 0)
def ownRun (gs : List Nat) : Nat × Nat := if (ownTo gs 8).2.1 < 2 then (0, 0) else ((ownTo gs 8).1, (ownTo gs 8).2.1)
theorem zl_congr {gs hs : List Nat} (h : ∀ i, gs.getD i 0 = 0 ↔ hs.getD i 0 = 0) : ∀ f i, zl gs f i = zl hs f i
  | 0, _ => rfl
  | f + 1, i => by
    rw [zl, zl, zl_congr h f (i + 1)]
    by_cases h0 : gs.getD i 0 = 0
    · rw [if_pos h0, if_pos ((h i).1 h0)]
    · rw [if_neg h0, if_neg (fun h1 => h0 ((h i).2 h1))]
theorem runTo_congr {gs hs : List Nat} (h : ∀ i, gs.getD i 0 = 0 ↔ hs.getD i 0 = 0) : ∀ k, runTo gs k = runTo hs k
  | 0 => rfl
  | k + 1 => by
    have e : zrun gs k = zrun hs k := zl_congr h _ _
    rw [runTo, runTo, runTo_congr h k, e]
theorem ownTo_congr {gs hs : List Nat} (h : ∀ i, gs.getD i 0 = 0 ↔ hs.getD i 0 = 0) : ∀ k, ownTo gs k = ownTo hs k
  | 0 => rfl
  | k + 1 => by
    rw [ownTo, ownTo, ownTo_congr h k]
    by_cases h0 : gs.getD k 0 = 0
    · rw [if_pos h0, if_pos ((h k).1 h0)]
    · rw [if_neg h0, if_neg (fun h1 => h0 ((h k).2 h1))]
def bit (b : Bool) : Nat := if b then 0 else 1
theorem run_bits : ∀ b0 b1 b2 b3 b4 b5 b6 b7 : Bool, ownRun [bit b0, bit b1, bit b2, bit b3, bit b4, bit b5, bit b6, bit b7] = runB [bit b0, bit b1, bit b2, bit b3, bit b4, bit b5, bit b6, bit b7] := by decide +kernel
theorem own_run (gs : List Nat) (h8 : gs.length = 8) : ownRun gs = runB gs := by
  obtain ⟨x0, x1, x2, x3, x4, x5, x6, x7, rfl⟩ := list8 gs h8
  have hb : ∀ x : Nat, x = 0 ↔ bit (decide (x = 0)) = 0 := by
    intro x
    unfold bit
    by_cases h : x = 0
    · simp [h]
    · simp [h]
  have h : ∀ i, [x0, x1, x2, x3, x4, x5, x6, x7].getD i 0 = 0 ↔ [bit (decide (x0 = 0)), bit (decide (x1 = 0)), bit (decide (x2 = 0)), bit (decide (x3 = 0)), bit (decide (x4 = 0)), bit (decide (x5 = 0)), bit (decide (x6 = 0)), bit (decide (x7 = 0))].getD i 0 = 0 := by
    intro i
    match i with
    | 0 => exact hb x0
    | 1 => exact hb x1
    | 2 => exact hb x2
    | 3 => exact hb x3
    | 4 => exact hb x4
    | 5 => exact hb x5
    | 6 => exact hb x6
    | 7 => exact hb x7
    | i + 8 => exact Iff.rfl
  unfold ownRun runB
  rw [ownTo_congr h, runTo_congr h]
  exact run_bits _ _ _ _ _ _ _ _
theorem own_ret {gs : List Nat} {A M N : Nat} (h8 : gs.length = 8) (h : ownTo gs 8 = (A, M, N)) : runB gs = if M < 2 then (0, 0) else (A, M) := by
  rw [← own_run gs h8]
  unfold ownRun
  rw [h]

theorem eq8_mapped (x0 x1 x2 x3 x4 x5 x6 x7 : Nat) (W : World) : (Op.equalIn 10000 76 (.agg #[.int .u16 (x0 : Int), .int .u16 (x1 : Int), .int .u16 (x2 : Int), .int .u16 (x3 : Int), .int .u16 (x4 : Int), .int .u16 (x5 : Int), .int .u16 (x6 : Int), .int .u16 (x7 : Int)]) (.agg #[.int .u16 0, .int .u16 0, .int .u16 0, .int .u16 0, .int .u16 0, .int .u16 65535, .int .u16 (x6 : Int), .int .u16 (x7 : Int)])).run Tryd.prog W = .ok (mappedB [x0, x1, x2, x3, x4, x5, x6, x7]) W := by
  obtain ⟨i, hi⟩ : ∃ i, Tryd.prog.info? 75 = some i := ⟨_, rfl⟩
  have := run_eq_ints W (k := .u16) Tryd.underlying76 (by kernel_rfl) Tryd.underlying75 hi (by kernel_rfl) [(x0 : Int), x1, x2, x3, x4, x5, x6, x7] [(0 : Int), 0, 0, 0, 0, 65535, x6, x7] rfl rfl
  rw [show decide ([(x0 : Int), x1, x2, x3, x4, x5, x6, x7] = [(0 : Int), 0, 0, 0, 0, 65535, x6, x7]) = mappedB [x0, x1, x2, x3, x4, x5, x6, x7] by
    rw [Bool.eq_iff_iff]
    simp [mappedB, zer]
    omega] at this
  exact this
end Go.Proofs.YtgbajagacmfcmaaDoor
/- The contract of six.Print. -/
namespace Go.Proofs.YtgbajagacmfcmaaDoor
open Go.RowKit
set_option linter.unusedVariables false
set_option maxRecDepth 20000

/-- What the walks ask of the library's own variables: the table of powers of ten, 16's zeros, some number at MaxLen. -/
structure Tabs (w : World) : Prop where
  pow : Lib.TabIs Tryd.prog w "internal/strconv.uint64pow10" .u64 Lib.pow10Tab
  bru : BruIs w
  max : ∃ m, w.cell? ⟨1, 0, none⟩ = some (.int .i64 m)
theorem gPow10 : Tryd.prog.globalNamed "internal/strconv.uint64pow10" = some 2 := by kernel_rfl
theorem cell_lt {w : World} {g o : Nat} {v : Value} (h : w.cell? ⟨g, o, none⟩ = some v) : g < w.heap.size := by
  rcases Nat.lt_or_ge g w.heap.size with h2 | h2
  · exact h2
  · simp [World.cell?, Array.getElem?_eq_none h2] at h
theorem Tabs.below {w w' : World} (h : Tabs w) (hb : Below w.heap.size w w') : Tabs w' := by
  refine ⟨?_, h.bru.below hb, ?_⟩
  · have hc := h.pow.cell gPow10 0 (by rw [Lib.pow10Tab_length]; decide)
    exact var?_below hb gPow10 (cell_lt hc) h.pow
  · obtain ⟨m, hm⟩ := h.max
    exact ⟨m, by rw [hb.cell (p := ⟨1, 0, none⟩) (cell_lt hm)]; exact hm⟩

/-- What a part of the groups is printed as. -/
def PartFact (gs : List Nat) (f t : Int) (X : ByteArray) : Prop := ∃ F T : Nat, f = (F : Int) ∧ t = (T : Int) ∧ gs.length = 8 ∧ (∀ x ∈ gs, x < 65536) ∧ F ≤ T ∧ T ≤ 8 ∧ rowS ((gs.drop F).take (T - F)) = X
end Go.Proofs.YtgbajagacmfcmaaDoor
/- Contracts of six.Bytes and six.Of. -/
namespace Go.Proofs.YtgbajagacmfcmaaDoor
open Go.RowKit
set_option linter.unusedVariables false
set_option maxRecDepth 20000

/-- Sixteen bytes, stored one by one. -/
def store16 (W : World) (R : Nat) (y0 y1 y2 y3 y4 y5 y6 y7 y8 y9 y10 y11 y12 y13 y14 y15 : Nat) : World := ((((((((((((((((W.setCell ⟨R, 0, none⟩ (.int .u8 ((y0 : Nat) : Int))).setCell ⟨R, 1, none⟩ (.int .u8 ((y1 : Nat) : Int))).setCell ⟨R, 2, none⟩ (.int .u8 ((y2 : Nat) : Int))).setCell ⟨R, 3, none⟩ (.int .u8 ((y3 : Nat) : Int))).setCell ⟨R, 4, none⟩ (.int .u8 ((y4 : Nat) : Int))).setCell ⟨R, 5, none⟩ (.int .u8 ((y5 : Nat) : Int))).setCell ⟨R, 6, none⟩ (.int .u8 ((y6 : Nat) : Int))).setCell ⟨R, 7, none⟩ (.int .u8 ((y7 : Nat) : Int))).setCell ⟨R, 8, none⟩ (.int .u8 ((y8 : Nat) : Int))).setCell ⟨R, 9, none⟩ (.int .u8 ((y9 : Nat) : Int))).setCell ⟨R, 10, none⟩ (.int .u8 ((y10 : Nat) : Int))).setCell ⟨R, 11, none⟩ (.int .u8 ((y11 : Nat) : Int))).setCell ⟨R, 12, none⟩ (.int .u8 ((y12 : Nat) : Int))).setCell ⟨R, 13, none⟩ (.int .u8 ((y13 : Nat) : Int))).setCell ⟨R, 14, none⟩ (.int .u8 ((y14 : Nat) : Int))).setCell ⟨R, 15, none⟩ (.int .u8 ((y15 : Nat) : Int)))
theorem store16_arr {W : World} {R : Nat} {l : List Nat} (y0 y1 y2 y3 y4 y5 y6 y7 y8 y9 y10 y11 y12 y13 y14 y15 : Nat) (h : ArrI .u8 16 W R l) : ArrI .u8 16 (store16 W R y0 y1 y2 y3 y4 y5 y6 y7 y8 y9 y10 y11 y12 y13 y14 y15) R [y0, y1, y2, y3, y4, y5, y6, y7, y8, y9, y10, y11, y12, y13, y14, y15] := by
  obtain ⟨z0, z1, z2, z3, z4, z5, z6, z7, z8, z9, z10, z11, z12, z13, z14, z15, rfl⟩ := list16 l h.len
  exact ((((((((((((((((h.set (i := 0) (by decide) y0).set (i := 1) (by decide) y1).set (i := 2) (by decide) y2).set (i := 3) (by decide) y3).set (i := 4) (by decide) y4).set (i := 5) (by decide) y5).set (i := 6) (by decide) y6).set (i := 7) (by decide) y7).set (i := 8) (by decide) y8).set (i := 9) (by decide) y9).set (i := 10) (by decide) y10).set (i := 11) (by decide) y11).set (i := 12) (by decide) y12).set (i := 13) (by decide) y13).set (i := 14) (by decide) y14).set (i := 15) (by decide) y15)
theorem store16_below {w W : World} {R : Nat} (y0 y1 y2 y3 y4 y5 y6 y7 y8 y9 y10 y11 y12 y13 y14 y15 : Nat) (h : Below w.heap.size w W) (hR : w.heap.size ≤ R) : Below w.heap.size w (store16 W R y0 y1 y2 y3 y4 y5 y6 y7 y8 y9 y10 y11 y12 y13 y14 y15) :=
  ((((((((((((((((h.setCell (p := ⟨R, 0, none⟩) hR _).setCell (p := ⟨R, 1, none⟩) hR _).setCell (p := ⟨R, 2, none⟩) hR _).setCell (p := ⟨R, 3, none⟩) hR _).setCell (p := ⟨R, 4, none⟩) hR _).setCell (p := ⟨R, 5, none⟩) hR _).setCell (p := ⟨R, 6, none⟩) hR _).setCell (p := ⟨R, 7, none⟩) hR _).setCell (p := ⟨R, 8, none⟩) hR _).setCell (p := ⟨R, 9, none⟩) hR _).setCell (p := ⟨R, 10, none⟩) hR _).setCell (p := ⟨R, 11, none⟩) hR _).setCell (p := ⟨R, 12, none⟩) hR _).setCell (p := ⟨R, 13, none⟩) hR _).setCell (p := ⟨R, 14, none⟩) hR _).setCell (p := ⟨R, 15, none⟩) hR _)
theorem ArrI.all16 {w : World} {B : Nat} {y0 y1 y2 y3 y4 y5 y6 y7 y8 y9 y10 y11 y12 y13 y14 y15 : Nat} (h : ArrI .u8 16 w B [y0, y1, y2, y3, y4, y5, y6, y7, y8, y9, y10, y11, y12, y13, y14, y15]) :
    w.cell? ⟨B, 0, none⟩ = some (.int .u8 (y0 : Int)) ∧ w.cell? ⟨B, 1, none⟩ = some (.int .u8 (y1 : Int)) ∧ w.cell? ⟨B, 2, none⟩ = some (.int .u8 (y2 : Int)) ∧ w.cell? ⟨B, 3, none⟩ = some (.int .u8 (y3 : Int)) ∧ w.cell? ⟨B, 4, none⟩ = some (.int .u8 (y4 : Int)) ∧ w.cell? ⟨B, 5, none⟩ = some (.int .u8 (y5 : Int)) ∧ w.cell? ⟨B, 6, none⟩ = some (.int .u8 (y6 : Int)) ∧ w.cell? ⟨B, 7, none⟩ = some (.int .u8 (y7 : Int)) ∧ w.cell? ⟨B, 8, none⟩ = some (.int .u8 (y8 : Int)) ∧ w.cell? ⟨B, 9, none⟩ = some (.int .u8 (y9 : Int)) ∧ w.cell? ⟨B, 10, none⟩ = some (.int .u8 (y10 : Int)) ∧ w.cell? ⟨B, 11, none⟩ = some (.int .u8 (y11 : Int)) ∧ w.cell? ⟨B, 12, none⟩ = some (.int .u8 (y12 : Int)) ∧ w.cell? ⟨B, 13, none⟩ = some (.int .u8 (y13 : Int)) ∧ w.cell? ⟨B, 14, none⟩ = some (.int .u8 (y14 : Int)) ∧ w.cell? ⟨B, 15, none⟩ = some (.int .u8 (y15 : Int)) :=
  ⟨h.cells 0 (by decide), h.cells 1 (by decide), h.cells 2 (by decide), h.cells 3 (by decide), h.cells 4 (by decide), h.cells 5 (by decide), h.cells 6 (by decide), h.cells 7 (by decide), h.cells 8 (by decide), h.cells 9 (by decide), h.cells 10 (by decide), h.cells 11 (by decide), h.cells 12 (by decide), h.cells 13 (by decide), h.cells 14 (by decide), h.cells 15 (by decide)⟩
theorem ArrI.lives16 {w : World} {B : Nat} {l : List Nat} (h : ArrI .u8 16 w B l) :
    w.frozen? ⟨B, 0, none⟩ = false ∧ w.frozen? ⟨B, 1, none⟩ = false ∧ w.frozen? ⟨B, 2, none⟩ = false ∧ w.frozen? ⟨B, 3, none⟩ = false ∧ w.frozen? ⟨B, 4, none⟩ = false ∧ w.frozen? ⟨B, 5, none⟩ = false ∧ w.frozen? ⟨B, 6, none⟩ = false ∧ w.frozen? ⟨B, 7, none⟩ = false ∧ w.frozen? ⟨B, 8, none⟩ = false ∧ w.frozen? ⟨B, 9, none⟩ = false ∧ w.frozen? ⟨B, 10, none⟩ = false ∧ w.frozen? ⟨B, 11, none⟩ = false ∧ w.frozen? ⟨B, 12, none⟩ = false ∧ w.frozen? ⟨B, 13, none⟩ = false ∧ w.frozen? ⟨B, 14, none⟩ = false ∧ w.frozen? ⟨B, 15, none⟩ = false :=
  ⟨h.live 0 (by decide), h.live 1 (by decide), h.live 2 (by decide), h.live 3 (by decide), h.live 4 (by decide), h.live 5 (by decide), h.live 6 (by decide), h.live 7 (by decide), h.live 8 (by decide), h.live 9 (by decide), h.live 10 (by decide), h.live 11 (by decide), h.live 12 (by decide), h.live 13 (by decide), h.live 14 (by decide), h.live 15 (by decide)⟩
theorem zeros16 : (#[.int .u8 0, .int .u8 0, .int .u8 0, .int .u8 0, .int .u8 0, .int .u8 0, .int .u8 0, .int .u8 0, .int .u8 0, .int .u8 0, .int .u8 0, .int .u8 0, .int .u8 0, .int .u8 0, .int .u8 0, .int .u8 0] : Array Value).toList = (List.replicate 16 0).map fun x => Value.int .u8 ((x : Nat) : Int) := rfl

set_option maxRecDepth 100000 in
set_option maxHeartbeats 2000000 in
theorem sixBytes_any (gs : List Nat) (w : World) (h8 : gs.length = 8) (hlt : ∀ x ∈ gs, x < 65536) :
    Calls Tryd.prog 90 #[arr8 gs] w fun e w' => e = .returned (arr16 (byL gs)) ∧ Below w.heap.size w w' := by
  obtain ⟨x0, x1, x2, x3, x4, x5, x6, x7, hgs⟩ := list8 gs h8
  have ha : arr8 gs = .agg #[.int .u16 (x0 : Int), .int .u16 (x1 : Int), .int .u16 (x2 : Int), .int .u16 (x3 : Int), .int .u16 (x4 : Int), .int .u16 (x5 : Int), .int .u16 (x6 : Int), .int .u16 (x7 : Int)] := by rw [hgs]; rfl
  have hA := Arr8.new w 76 x0 x1 x2 x3 x4 x5 x6 x7
  rw [← hgs] at hA
  have b1 : Below w.heap.size w (w.alloc (.cells #[.int .u16 (x0 : Int), .int .u16 (x1 : Int), .int .u16 (x2 : Int), .int .u16 (x3 : Int), .int .u16 (x4 : Int), .int .u16 (x5 : Int), .int .u16 (x6 : Int), .int .u16 (x7 : Int)] 76)) := (Below.refl _ _).alloc (Nat.le_refl _) _
  have b2 := b1.alloc b1.size (.cells #[.int .u8 0, .int .u8 0, .int .u8 0, .int .u8 0, .int .u8 0, .int .u8 0, .int .u8 0, .int .u8 0, .int .u8 0, .int .u8 0, .int .u8 0, .int .u8 0, .int .u8 0, .int .u8 0, .int .u8 0, .int .u8 0] 23)
  have b3 := b2.alloc b2.size (.cells #[.int .u8 0, .int .u8 0, .int .u8 0, .int .u8 0, .int .u8 0, .int .u8 0, .int .u8 0, .int .u8 0, .int .u8 0, .int .u8 0, .int .u8 0, .int .u8 0, .int .u8 0, .int .u8 0, .int .u8 0, .int .u8 0] 23)
  have hR := ArrI.of (w.alloc (.cells #[.int .u16 (x0 : Int), .int .u16 (x1 : Int), .int .u16 (x2 : Int), .int .u16 (x3 : Int), .int .u16 (x4 : Int), .int .u16 (x5 : Int), .int .u16 (x6 : Int), .int .u16 (x7 : Int)] 76)) #[.int .u8 0, .int .u8 0, .int .u8 0, .int .u8 0, .int .u8 0, .int .u8 0, .int .u8 0, .int .u8 0, .int .u8 0, .int .u8 0, .int .u8 0, .int .u8 0, .int .u8 0, .int .u8 0, .int .u8 0, .int .u8 0] 23 (List.replicate 16 0) zeros16 (n := 16) rfl
  have hP := ArrI.of ((w.alloc (.cells #[.int .u16 (x0 : Int), .int .u16 (x1 : Int), .int .u16 (x2 : Int), .int .u16 (x3 : Int), .int .u16 (x4 : Int), .int .u16 (x5 : Int), .int .u16 (x6 : Int), .int .u16 (x7 : Int)] 76)).alloc (.cells #[.int .u8 0, .int .u8 0, .int .u8 0, .int .u8 0, .int .u8 0, .int .u8 0, .int .u8 0, .int .u8 0, .int .u8 0, .int .u8 0, .int .u8 0, .int .u8 0, .int .u8 0, .int .u8 0, .int .u8 0, .int .u8 0] 23)) #[.int .u8 0, .int .u8 0, .int .u8 0, .int .u8 0, .int .u8 0, .int .u8 0, .int .u8 0, .int .u8 0, .int .u8 0, .int .u8 0, .int .u8 0, .int .u8 0, .int .u8 0, .int .u8 0, .int .u8 0, .int .u8 0] 23 (List.replicate 16 0) zeros16 (n := 16) rfl
  have hA2 := (hA.below ((Below.refl _ _).alloc (Nat.le_refl _) (.cells #[.int .u8 0, .int .u8 0, .int .u8 0, .int .u8 0, .int .u8 0, .int .u8 0, .int .u8 0, .int .u8 0, .int .u8 0, .int .u8 0, .int .u8 0, .int .u8 0, .int .u8 0, .int .u8 0, .int .u8 0, .int .u8 0] 23))).below ((Below.refl _ _).alloc (Nat.le_refl _) (.cells #[.int .u8 0, .int .u8 0, .int .u8 0, .int .u8 0, .int .u8 0, .int .u8 0, .int .u8 0, .int .u8 0, .int .u8 0, .int .u8 0, .int .u8 0, .int .u8 0, .int .u8 0, .int .u8 0, .int .u8 0, .int .u8 0] 23))
  have hR2 := hR.below ((Below.refl _ _).alloc (Nat.le_refl _) (.cells #[.int .u8 0, .int .u8 0, .int .u8 0, .int .u8 0, .int .u8 0, .int .u8 0, .int .u8 0, .int .u8 0, .int .u8 0, .int .u8 0, .int .u8 0, .int .u8 0, .int .u8 0, .int .u8 0, .int .u8 0, .int .u8 0] 23))
  have e1 : (w.alloc (.cells #[.int .u16 (x0 : Int), .int .u16 (x1 : Int), .int .u16 (x2 : Int), .int .u16 (x3 : Int), .int .u16 (x4 : Int), .int .u16 (x5 : Int), .int .u16 (x6 : Int), .int .u16 (x7 : Int)] 76)).heap.size = w.heap.size + 1 := by simp
  have e2 : ((w.alloc (.cells #[.int .u16 (x0 : Int), .int .u16 (x1 : Int), .int .u16 (x2 : Int), .int .u16 (x3 : Int), .int .u16 (x4 : Int), .int .u16 (x5 : Int), .int .u16 (x6 : Int), .int .u16 (x7 : Int)] 76)).alloc (.cells #[.int .u8 0, .int .u8 0, .int .u8 0, .int .u8 0, .int .u8 0, .int .u8 0, .int .u8 0, .int .u8 0, .int .u8 0, .int .u8 0, .int .u8 0, .int .u8 0, .int .u8 0, .int .u8 0, .int .u8 0, .int .u8 0] 23)).heap.size = w.heap.size + 1 + 1 := by simp
  rw [e1] at hR2
  rw [e2] at hP
  rw [ha]
  have H8 := Lib.hid h8
  have HLT := Lib.hid hlt
  clear ha hgs h8 hlt hA hR b1 b2
  go_enter Tryd.func90, Tryd.ntmps90
  go_wp2_with fail
  generalize (((w.alloc (.cells #[.int .u16 (x0 : Int), .int .u16 (x1 : Int), .int .u16 (x2 : Int), .int .u16 (x3 : Int), .int .u16 (x4 : Int), .int .u16 (x5 : Int), .int .u16 (x6 : Int), .int .u16 (x7 : Int)] 76)).alloc (.cells #[.int .u8 0, .int .u8 0, .int .u8 0, .int .u8 0, .int .u8 0, .int .u8 0, .int .u8 0, .int .u8 0, .int .u8 0, .int .u8 0, .int .u8 0, .int .u8 0, .int .u8 0, .int .u8 0, .int .u8 0, .int .u8 0] 23)).alloc (.cells #[.int .u8 0, .int .u8 0, .int .u8 0, .int .u8 0, .int .u8 0, .int .u8 0, .int .u8 0, .int .u8 0, .int .u8 0, .int .u8 0, .int .u8 0, .int .u8 0, .int .u8 0, .int .u8 0, .int .u8 0, .int .u8 0] 23)) = W at *
  clear e1 e2
  have HA := Lib.hid hA2
  have HR := Lib.hid hR2
  have HP := Lib.hid hP
  clear hA2 hR2 hP
  go_loopw [5] (fun i wr => ∃ (k : Nat) (l : List Nat), k ≤ 8 ∧ i = .int .i64 k ∧ Hid (Arr8 wr w.heap.size gs) ∧ Hid (ArrI .u8 16 wr (w.heap.size + 1) (List.replicate 16 0)) ∧ Hid (ArrI .u8 16 wr (w.heap.size + 1 + 1) l) ∧ Hid (l = byL (gs.take k) ++ List.replicate (16 - 2 * k) 0) ∧ Below w.heap.size w wr) (fun i _ => 8 - (intOf i).toNat)
  case atStart => exact ⟨0, _, by decide, rfl, HA, HR, HP, Lib.hid rfl, b3⟩
  case round =>
    obtain ⟨k, l, hk, rfl, HA2, HR2, HP2, HL, hbel⟩ := hrel
    by_cases hk8 : k < 8
    · have hcell := HA2.out.cells k hk8
      have hx : gs.getD k 0 < 65536 := by
        rw [List.getD_eq_getElem?_getD, List.getElem?_eq_getElem (by rw [H8.out]; exact hk8)]
        exact HLT.out _ (List.getElem_mem _)
      have et : gs.take (k + 1) = gs.take k ++ [gs.getD k 0] := by
        rw [List.take_add_one, List.getD_eq_getElem?_getD, List.getElem?_eq_getElem (by rw [H8.out]; exact hk8)]; rfl
      obtain ⟨x, ex⟩ : ∃ x, gs.getD k 0 = x := ⟨_, rfl⟩
      rw [ex] at hcell hx et
      obtain ⟨c, hc, ec⟩ : ∃ c : Nat, 2 * k = c ∧ (2 : Int) * (k : Int) = (c : Int) := ⟨_, rfl, by omega⟩
      obtain ⟨hi, hhi, ehi⟩ : ∃ hi : Nat, x / 256 = hi ∧ (x : Int) / 256 = (hi : Int) := ⟨_, rfl, by omega⟩
      obtain ⟨lo, hlo⟩ : ∃ lo : Nat, x % 256 = lo := ⟨_, rfl⟩
      have whi : IntKind.u8.wrap (hi : Int) = (hi : Int) := by rw [IntKind.wrap_u8]; omega
      have wlo : IntKind.u8.wrap (x : Int) = (lo : Int) := by rw [IntKind.wrap_u8]; omega
      have hc15 : c + 1 < 16 := by omega
      have c0 : (0 : Int) ≤ (c : Int) := by omega
      have c1 : (c : Int) < 16 := by omega
      have c2 : (c : Int) + 1 < 16 := by omega
      have c3 : (0 : Int) ≤ (c : Int) + 1 := by omega
      have k0 : (0 : Int) ≤ (k : Int) := by omega
      have k1 : (k : Int) < 8 := by omega
      have hp0 := HP2.out.cells c (by omega)
      have hp1 := HP2.out.cells (c + 1) (by omega)
      have hl0 := HP2.out.live c (by omega)
      have hl1 := HP2.out.live (c + 1) (by omega)
      generalize l.getD c 0 = o0 at hp0
      generalize l.getD (c + 1) 0 = o1 at hp1
      have HS := Lib.hid ((HP2.out.set (i := c) (by omega) hi).set (i := c + 1) (by omega) lo)
      have HE : Hid (((l.set c hi).set (c + 1) lo) = byL (gs.take (k + 1)) ++ List.replicate (16 - 2 * (k + 1)) 0) := Lib.hid (by
        rw [HL.out, et, byL_snoc, ← hc, ← hhi, ← hlo]
        exact set_two _ k _ _ hk8 (by rw [byL_len, List.length_take, H8.out]; omega))
      clear ex et hc hhi hlo
      go_wp2_with fail
      go_region
      go_wp2_with fail
      go_roundw
      case rel => exact ⟨k + 1, (l.set c hi).set (c + 1) lo, by omega, by go_num, Lib.hid (((HA2.out.other (by omega) _).other (by omega) _).below (Below.refl _ _).drew), Lib.hid (((HR2.out.other (by omega) _).other (by omega) _).below (Below.refl _ _).drew), Lib.hid (HS.out.below (Below.refl _ _).drew), HE, ((hbel.setCell (p := ⟨w.heap.size + 1 + 1, c, none⟩) (by show w.heap.size ≤ w.heap.size + 1 + 1; omega) _).setCell (p := ⟨w.heap.size + 1 + 1, c + 1, none⟩) (by show w.heap.size ≤ w.heap.size + 1 + 1; omega) _).drew⟩
      case measure => simp [intOf]; omega
    · obtain rfl : k = 8 := by omega
      have hll : l = byL gs := by rw [HL.out, List.take_of_length_le (by rw [H8.out]; exact Nat.le_refl _)]; simp
      subst hll
      have hP8 := HP2.out
      obtain ⟨y0, y1, y2, y3, y4, y5, y6, y7, y8, y9, y10, y11, y12, y13, y14, y15, hy⟩ := list16 (byL gs) hP8.len
      rw [hy] at hP8
      have HY := Lib.hid hy
      obtain ⟨c0, c1, c2, c3, c4, c5, c6, c7, c8, c9, c10, c11, c12, c13, c14, c15⟩ := hP8.all16
      obtain ⟨r0, r1, r2, r3, r4, r5, r6, r7, r8, r9, r10, r11, r12, r13, r14, r15⟩ := (show ArrI .u8 16 wr (w.heap.size + 1) [0, 0, 0, 0, 0, 0, 0, 0, 0, 0, 0, 0, 0, 0, 0, 0] from HR2.out).all16
      obtain ⟨f0, f1, f2, f3, f4, f5, f6, f7, f8, f9, f10, f11, f12, f13, f14, f15⟩ := HR2.out.lives16
      have E1 := Lib.hid (store16_arr y0 y1 y2 y3 y4 y5 y6 y7 y8 y9 y10 y11 y12 y13 y14 y15 HR2.out)
      have E2 := Lib.hid (store16_below y0 y1 y2 y3 y4 y5 y6 y7 y8 y9 y10 y11 y12 y13 y14 y15 hbel (show w.heap.size ≤ w.heap.size + 1 by omega))
      clear hP8 hy
      go_wp2_with fail
      change bodyPost _ _ _ _ _ (store16 wr (w.heap.size + 1) y0 y1 y2 y3 y4 y5 y6 y7 y8 y9 y10 y11 y12 y13 y14 y15)
      generalize store16 wr (w.heap.size + 1) y0 y1 y2 y3 y4 y5 y6 y7 y8 y9 y10 y11 y12 y13 y14 y15 = W at *
      clear c0 c1 c2 c3 c4 c5 c6 c7 c8 c9 c10 c11 c12 c13 c14 c15 r0 r1 r2 r3 r4 r5 r6 r7 r8 r9 r10 r11 r12 r13 r14 r15 f0 f1 f2 f3 f4 f5 f6 f7 f8 f9 f10 f11 f12 f13 f14 f15
      obtain ⟨r0, r1, r2, r3, r4, r5, r6, r7, r8, r9, r10, r11, r12, r13, r14, r15⟩ := E1.out.all16
      refine bodyPost_ret (v := arr16 [y0, y1, y2, y3, y4, y5, y6, y7, y8, y9, y10, y11, y12, y13, y14, y15]) (by simp [results, Tryd.results90, go_sem, r0, r1, r2, r3, r4, r5, r6, r7, r8, r9, r10, r11, r12, r13, r14, r15, arr16]) rfl ⟨by rw [HY.out], E2.out⟩

theorem zeros8u : (#[.int .u16 0, .int .u16 0, .int .u16 0, .int .u16 0, .int .u16 0, .int .u16 0, .int .u16 0, .int .u16 0] : Array Value).toList = (List.replicate 8 0).map fun x => Value.int .u16 ((x : Nat) : Int) := rfl

end Go.Proofs.YtgbajagacmfcmaaDoor
/- Contracts of addr.Four, addr.mapped, addr.Of4, addr.Of6. -/
namespace Go.Proofs.YtgbajagacmfcmaaDoor
open Go.RowKit
set_option linter.unusedVariables false
set_option maxRecDepth 20000

/-- The bytes of the one that is unmapped to n. -/
def mapL (n : Nat) : List Nat := [0, 0, 0, 0, 0, 0, 0, 0, 0, 0, 255, 255, n / 16777216 % 256, n / 65536 % 256, n / 256 % 256, n % 256]
set_option maxRecDepth 100000 in
set_option maxHeartbeats 1000000 in
theorem addrMapped_any (n : Nat) (w : World) (hn : n ≤ 4294967295) :
    Calls Tryd.prog 53 #[.int .u32 (n : Int)] w fun e w' => e = .returned (arr16 (mapL n)) ∧ Below w.heap.size w w' := by
  have HE : Hid (mapL n = [0, 0, 0, 0, 0, 0, 0, 0, 0, 0, 255, 255, n / 16777216 % 256, n / 65536 % 256, n / 256 % 256, n % 256]) := Lib.hid rfl
  have HBy := fun W => Lib.hid (bytes_any (n / 16777216 % 256) (n / 65536 % 256) (n / 256 % 256) (n % 256) n W (by omega) (by omega) (by omega) (by omega) (by unfold num4; omega))
  have HZ := Lib.hid (b16_new w 23 z16 (List.replicate 16 0) rfl rfl)
  have HB : Hid (Below w.heap.size w (w.alloc (.cells z16 23))) := Lib.hid ((Below.refl _ _).alloc (Nat.le_refl _) _)
  generalize n / 16777216 % 256 = a at *
  generalize n / 65536 % 256 = b at *
  generalize n / 256 % 256 = c at *
  generalize n % 256 = d at *
  unfold arr4 at HBy
  go_enter Tryd.func53, Tryd.ntmps53
  go_upto_region 1 with fail
  generalize (w.alloc (.cells z16 23)) = W at *
  go_wp2_with fail
  refine (HBy W).out.mono ?_
  rintro e w1 ⟨rfl, hb1⟩
  have HZ1 := Lib.hid ((HZ.out.below hb1).below ((Below.refl w1.heap.size w1).alloc (Nat.le_refl _) (.cells #[.int .u8 (a : Int), .int .u8 (b : Int), .int .u8 (c : Int), .int .u8 (d : Int)] 95)))
  have HB1 := Lib.hid (chain (chain HB.out hb1) ((Below.refl w1.heap.size w1).alloc (Nat.le_refl _) (.cells #[.int .u8 (a : Int), .int .u8 (b : Int), .int .u8 (c : Int), .int .u8 (d : Int)] 95)))
  clear HZ HB hb1 HBy
  have HLN : Hid ([0, 0, 0, 0, 0, 0, 0, 0, 0, 0, 255, 255, a, b, c, d].length = 16) := Lib.hid rfl
  go_wp2_with (refine store_b16 HZ1 _ _ HLN rfl rfl rfl rfl (fun W HW HA => ?_))
  refine bodyPost_ret (v := arr16 [0, 0, 0, 0, 0, 0, 0, 0, 0, 0, 255, 255, a, b, c, d]) (results_b16 Tryd.results53 rfl HA.out) rfl ⟨by rw [HE.out], by rw [HW.out]; exact below_cells (Nat.le_refl _) _ _ _ HB1.out⟩
/-- An address of 32 bits. -/
theorem b4_list (n : Nat) (hn : n ≤ 4294967295) : b4 n = [n / 16777216 % 256, n / 65536 % 256, n / 256 % 256, n % 256, 0, 0, 0, 0, 0, 0, 0, 0, 0, 0, 0, 0] := b4_eq n
set_option maxRecDepth 100000 in
set_option maxHeartbeats 1000000 in
theorem addrOf4_any (n : Nat) (w : World) (hn : n ≤ 4294967295) :
    Calls Tryd.prog 54 #[.int .u32 (n : Int)] w fun e w' => e = .returned (addrV 4 (b4 n)) ∧ Below w.heap.size w w' := by
  have HE := Lib.hid (b4_eq n)
  have HBy := fun W => Lib.hid (bytes_any (n / 16777216 % 256) (n / 65536 % 256) (n / 256 % 256) (n % 256) n W (by omega) (by omega) (by omega) (by omega) (by unfold num4; omega))
  have HZ := Lib.hid (addr_zeroed w)
  have HB : Hid (Below w.heap.size w (w.alloc (.cells zA 25))) := Lib.hid ((Below.refl _ _).alloc (Nat.le_refl _) _)
  generalize n / 16777216 % 256 = a at *
  generalize n / 65536 % 256 = b at *
  generalize n / 256 % 256 = c at *
  generalize n % 256 = d at *
  unfold arr4 at HBy
  go_enter Tryd.func54, Tryd.ntmps54
  go_upto_region 1 with fail
  generalize (w.alloc (.cells zA 25)) = W at *
  go_wp2_with fail
  refine (HBy W).out.mono ?_
  rintro e w1 ⟨rfl, hb1⟩
  have HZ1 := Lib.hid ((HZ.out.below hb1).alloc (.cells #[.int .u8 (a : Int), .int .u8 (b : Int), .int .u8 (c : Int), .int .u8 (d : Int)] 95))
  have HB1 := Lib.hid (chain (chain HB.out hb1) ((Below.refl w1.heap.size w1).alloc (Nat.le_refl _) (.cells #[.int .u8 (a : Int), .int .u8 (b : Int), .int .u8 (c : Int), .int .u8 (d : Int)] 95)))
  clear HZ HB hb1 HBy
  have HLN : Hid ([a, b, c, d, 0, 0, 0, 0, 0, 0, 0, 0, 0, 0, 0, 0].length = 16) := Lib.hid rfl
  go_wp2_with (refine store_addr HZ1 _ _ HLN rfl rfl rfl rfl (fun W HW HA => ?_))
  refine bodyPost_ret (v := addrV 4 [a, b, c, d, 0, 0, 0, 0, 0, 0, 0, 0, 0, 0, 0, 0]) (results_addr Tryd.results54 rfl HA.out) rfl ⟨by rw [HE.out], by rw [HW.out]; exact below_cells (Nat.le_refl _) _ _ _ HB1.out⟩
set_option maxRecDepth 100000 in
set_option maxHeartbeats 1000000 in
theorem addrOf6_any (gs : List Nat) (w : World) (h8 : gs.length = 8) (hlt : ∀ x ∈ gs, x < 65536) :
    Calls Tryd.prog 81 #[arr8 gs] w fun e w' => e = .returned (addrV 6 (byL gs)) ∧ Below w.heap.size w w' := by
  have HBy := fun W => Lib.hid (sixBytes_any gs W h8 hlt)
  obtain ⟨x0, x1, x2, x3, x4, x5, x6, x7, hgs⟩ := list8 gs h8
  have ha : arr8 gs = .agg #[.int .u16 (x0 : Int), .int .u16 (x1 : Int), .int .u16 (x2 : Int), .int .u16 (x3 : Int), .int .u16 (x4 : Int), .int .u16 (x5 : Int), .int .u16 (x6 : Int), .int .u16 (x7 : Int)] := by rw [hgs]; rfl
  obtain ⟨y0, y1, y2, y3, y4, y5, y6, y7, y8, y9, y10, y11, y12, y13, y14, y15, hbs⟩ := list16 (byL gs) (by rw [byL_len, h8])
  have HZ := addr_zeroed (w.alloc (.cells #[.int .u16 (x0 : Int), .int .u16 (x1 : Int), .int .u16 (x2 : Int), .int .u16 (x3 : Int), .int .u16 (x4 : Int), .int .u16 (x5 : Int), .int .u16 (x6 : Int), .int .u16 (x7 : Int)] 76))
  rw [heap_alloc] at HZ
  have b1 : Below w.heap.size w (w.alloc (.cells #[.int .u16 (x0 : Int), .int .u16 (x1 : Int), .int .u16 (x2 : Int), .int .u16 (x3 : Int), .int .u16 (x4 : Int), .int .u16 (x5 : Int), .int .u16 (x6 : Int), .int .u16 (x7 : Int)] 76)) := (Below.refl _ _).alloc (Nat.le_refl _) _
  have HB := Lib.hid (b1.alloc b1.size (.cells zA 25))
  have hA := (Arr8.of8 w 76 x0 x1 x2 x3 x4 x5 x6 x7).below ((Below.refl _ _).alloc (Nat.le_refl _) (.cells zA 25))
  have HE := Lib.hid hbs
  rw [ha] at HBy ⊢
  rw [hbs] at HBy
  unfold arr16 at HBy
  have HZH := Lib.hid HZ
  clear HZ b1 ha hgs hbs h8 hlt
  go_enter Tryd.func81, Tryd.ntmps81
  go_upto_region 1 with fail
  generalize ((w.alloc (.cells #[.int .u16 (x0 : Int), .int .u16 (x1 : Int), .int .u16 (x2 : Int), .int .u16 (x3 : Int), .int .u16 (x4 : Int), .int .u16 (x5 : Int), .int .u16 (x6 : Int), .int .u16 (x7 : Int)] 76)).alloc (.cells zA 25)) = W at *
  obtain ⟨c0, c1, c2, c3, c4, c5, c6, c7⟩ := hA.all
  go_wp2_with fail
  refine (HBy W).out.mono ?_
  rintro e w1 ⟨rfl, hb1⟩
  have HZ1 := Lib.hid (HZH.out.below hb1)
  have HB1 := Lib.hid (chain HB.out hb1)
  clear HZH HB hb1 HBy hA c0 c1 c2 c3 c4 c5 c6 c7
  have HLN : Hid ([y0, y1, y2, y3, y4, y5, y6, y7, y8, y9, y10, y11, y12, y13, y14, y15].length = 16) := Lib.hid rfl
  go_wp2_with (refine store_addr HZ1 _ _ HLN rfl rfl rfl rfl (fun W HW HA => ?_))
  refine bodyPost_ret (v := addrV 6 [y0, y1, y2, y3, y4, y5, y6, y7, y8, y9, y10, y11, y12, y13, y14, y15]) (results_addr Tryd.results81 rfl HA.out) rfl ⟨by rw [HE.out], by rw [HW.out]; exact below_cells (by omega) _ _ _ HB1.out⟩
end Go.Proofs.YtgbajagacmfcmaaDoor
/- Contract of addr.May. -/
namespace Go.Proofs.YtgbajagacmfcmaaDoor
open Go.RowKit
set_option linter.unusedVariables false
set_option maxRecDepth 20000

end Go.Proofs.YtgbajagacmfcmaaDoor
/- Contracts of addr.Map, addr.Unmap. -/
namespace Go.Proofs.YtgbajagacmfcmaaDoor
open Go.RowKit
set_option linter.unusedVariables false
set_option maxRecDepth 20000

theorem mapL_len (n : Nat) : (mapL n).length = 16 := rfl
theorem map_map8 (n : Nat) (hn : n ≤ 4294967295) : byL (map8 n) = mapL n := by
  unfold map8 byL mapL
  simp
  omega
end Go.Proofs.YtgbajagacmfcmaaDoor
/- Contract of addr.Unmap. -/
namespace Go.Proofs.YtgbajagacmfcmaaDoor
open Go.RowKit
set_option linter.unusedVariables false
set_option maxRecDepth 20000

/-- The number of the last four bytes. -/
def last4 (bs : List Nat) : Nat := ((bs.getD 12 0 * 256 + bs.getD 13 0) * 256 + bs.getD 14 0) * 256 + bs.getD 15 0
theorem last4_le (bs : List Nat) (h : ∀ x ∈ bs, x < 256) : last4 bs ≤ 4294967295 := by
  have h0 := byte_lt h 12
  have h1 := byte_lt h 13
  have h2 := byte_lt h 14
  have h3 := byte_lt h 15
  unfold last4
  omega
theorem last4_gr (bs : List Nat) : (grL bs 8).getD 6 0 * 65536 + (grL bs 8).getD 7 0 = last4 bs := by
  simp [grL, last4]
  omega
theorem mapped_mapL (bs : List Nat) (h16 : bs.length = 16) (hlt : ∀ x ∈ bs, x < 256) : decide (bs = mapL (last4 bs)) = mappedB (grL bs 8) := by
  obtain ⟨y0, y1, y2, y3, y4, y5, y6, y7, y8, y9, y10, y11, y12, y13, y14, y15, rfl⟩ := list16 bs h16
  simp at hlt
  rw [Bool.eq_iff_iff]
  simp [mapL, last4, grL, mappedB, zer]
  omega
set_option maxRecDepth 100000 in
set_option maxHeartbeats 1000000 in
theorem addrUnmap_any (f : Int) (bs : List Nat) (w : World) (h16 : bs.length = 16) (hlt : ∀ x ∈ bs, x < 256) :
    Calls Tryd.prog 35 #[addrV f bs] w fun e w' => e = .returned (addrV (unmapF f bs) (unmapB f bs)) ∧ Below w.heap.size w w' := by
  obtain ⟨cs, ecs, HA, HB⟩ := addr_boxed f bs w h16
  have HZ := addr_zeroed (w.alloc (.cells cs 25))
  rw [heap_alloc] at HZ
  have HR := Lib.hid HZ
  have HA1 := Lib.hid (HA.out.alloc (.cells zA 25))
  have HB1 := Lib.hid (HB.out.alloc HB.out.size (.cells zA 25))
  rw [ecs]
  have HO := fun W => Lib.hid (of_any (bs.getD 12 0) (bs.getD 13 0) (bs.getD 14 0) (bs.getD 15 0) W (byte_lt hlt 12) (byte_lt hlt 13) (byte_lt hlt 14) (byte_lt hlt 15))
  rw [show ((bs.getD 12 0 * 256 + bs.getD 13 0) * 256 + bs.getD 14 0) * 256 + bs.getD 15 0 = last4 bs from rfl] at HO
  have HQ := Lib.hid (mapped_mapL bs h16 hlt)
  have HN := Lib.hid (last4_gr bs)
  have HLE := Lib.hid (last4_le bs hlt)
  have HLT := Lib.hid hlt
  have H16 := Lib.hid h16
  generalize last4 bs = n at *
  clear ecs hlt h16 HZ HA HB
  go_enter Tryd.func35, Tryd.ntmps35
  go_upto_region 1 with fail
  generalize ((w.alloc (.cells cs 25)).alloc (.cells zA 25)) = W at *
  have c0 : W.cell? ⟨w.heap.size, 13, none⟩ = some (.int .u8 ((bs.getD 12 0 : Nat) : Int)) := HA1.out.cells 12 (by decide)
  have c1 : W.cell? ⟨w.heap.size, 14, none⟩ = some (.int .u8 ((bs.getD 13 0 : Nat) : Int)) := HA1.out.cells 13 (by decide)
  have c2 : W.cell? ⟨w.heap.size, 15, none⟩ = some (.int .u8 ((bs.getD 14 0 : Nat) : Int)) := HA1.out.cells 14 (by decide)
  have c3 : W.cell? ⟨w.heap.size, 16, none⟩ = some (.int .u8 ((bs.getD 15 0 : Nat) : Int)) := HA1.out.cells 15 (by decide)
  generalize bs.getD 12 0 = a at *
  generalize bs.getD 13 0 = b at *
  generalize bs.getD 14 0 = c at *
  generalize bs.getD 15 0 = d at *
  unfold arr4 at HO
  go_wp2_with fail
  refine (HO W).out.mono ?_
  rintro e w1 ⟨rfl, hb1⟩
  have HA2 := Lib.hid (HA1.out.below hb1)
  have HR2 := Lib.hid (HR.out.below hb1)
  have HB2 := Lib.hid (chain HB1.out hb1)
  clear HA1 HR HB1 hb1 HO c0 c1 c2 c3
  go_wp2_with fail
  obtain ⟨L, hL⟩ : ∃ L, [(w.heap.size, 0, addrL f bs), (w.heap.size, 1, bs.map fun n => Value.int .u8 ((n : Nat) : Int))] = L := ⟨_, rfl⟩
  have HK := Lib.hid (show HeldR L w1 w1 by rw [← hL]; exact ((HeldR.nil (Below.refl _ _)).cons HA2.out.b16.range HA2.out.lt).addr HA2.out)
  have MA : InA L w.heap.size f bs := ⟨by rw [← hL]; simp, H16.out⟩
  have M0 := Lib.hid (famR MA w1)
  have M1 := Lib.hid (show InB L w.heap.size 1 bs from ⟨by rw [← hL]; simp, H16.out⟩)
  clear hL MA
  refine wp_region_noPanic ?_
  by_cases h6 : f = 6
  · subst h6
    have HC : ∀ w', HeldR L w1 w' → Hid (Calls Tryd.prog 53 #[.int .u32 (n : Int)] w' fun e w'' => e = .returned (arr16 (mapL n)) ∧ Below w'.heap.size w' w'') := fun w' _ => Lib.hid (addrMapped_any n w' HLE.out)
    have q1 := fun W => run_neq_arr16 bs (mapL n) W H16.out rfl
    have gd := guard_arr16
    rw [HQ.out] at q1
    cases hm : mappedB (grL bs 8) with
    | true =>
      rw [hm] at q1
      have q2 : ∀ W, (binOp .neq 23 (arr16 bs) (arr16 (mapL n))).run Tryd.prog W = .ok (.bool false) W := q1
      have HE : Hid (unmapF 6 bs = 4 ∧ unmapB 6 bs = b4 n) := Lib.hid ⟨by unfold unmapF isMap; rw [hm]; rfl, by unfold unmapB isMap; rw [hm, HN.out]; rfl⟩
      clear q1 hm
      refine wp_region_held_drew (S := HeldR L w1) (by kernel_rfl) HK.out.drew (fun hHeld => ?_)
      refine wpAnyH_take (i := 0) (v := ?_) rfl (by kernel_rfl) (by kernel_rfl) (by kernel_rfl) (fun _ _ _ h => h) (Or.inl ⟨by rfl, ?_⟩) (by assumption) ?_
      rotate_left
      · (intro w hSw; go_simp; try (with_reducible rfl))
      try simp only [Act.put, List.getElem_toArray, List.getElem_cons_zero, List.setIfInBounds_toArray, List.set_cons_zero, List.set_cons_succ]
      refine wpAnyH_take (i := 1) (v := ?_) rfl (by kernel_rfl) (by kernel_rfl) (by kernel_rfl) (fun _ _ _ h => h) (Or.inl ⟨by rfl, ?_⟩) (by assumption) ?_
      rotate_left
      · (intro w hSw; have hc0 := M0.out w hSw; go_simp; try (with_reducible rfl))
      try simp only [Act.put, List.getElem_toArray, List.getElem_cons_zero, List.getElem_cons_succ, List.setIfInBounds_toArray, List.set_cons_zero, List.set_cons_succ]
      refine wpAnyH_take (i := 2) (v := ?_) rfl (by kernel_rfl) (by kernel_rfl) (by kernel_rfl) (fun _ _ _ h => h) (Or.inl ⟨by rfl, ?_⟩) (by assumption) ?_
      rotate_left
      · (intro w hSw; go_simp; try (with_reducible rfl))
      try simp only [Act.put, List.getElem_toArray, List.getElem_cons_zero, List.getElem_cons_succ, List.setIfInBounds_toArray, List.set_cons_zero, List.set_cons_succ]
      refine wpAnyH_take (i := 3) (v := ?_) rfl (by kernel_rfl) (by kernel_rfl) (by kernel_rfl) (fun _ _ _ h => h) (Or.inl ⟨by rfl, ?_⟩) (by assumption) ?_
      rotate_left
      · (intro w hSw; go_simp; try (with_reducible rfl))
      try simp only [Act.put, List.getElem_toArray, List.getElem_cons_zero, List.getElem_cons_succ, List.setIfInBounds_toArray, List.set_cons_zero, List.set_cons_succ]
      refine wpAnyH_take (i := 4) (v := ?_) rfl (by kernel_rfl) (by kernel_rfl) (by kernel_rfl) (fun _ _ _ h => h) (Or.inl ⟨by rfl, ?_⟩) (by assumption) ?_
      rotate_left
      · (intro w hSw; go_simp; try (with_reducible rfl))
      try simp only [Act.put, List.getElem_toArray, List.getElem_cons_zero, List.getElem_cons_succ, List.setIfInBounds_toArray, List.set_cons_zero, List.set_cons_succ]
      refine wpAnyH_take (i := 5) rfl (by kernel_rfl) (by kernel_rfl) (by kernel_rfl) (fun _ _ _ h => h) (yields_b16 M1 (by rfl) _ rfl rfl) (by assumption) ?_
      try simp only [Act.put, List.getElem_toArray, List.getElem_cons_zero, List.getElem_cons_succ, List.setIfInBounds_toArray, List.set_cons_zero, List.set_cons_succ]
      refine wpAnyH_take (i := 6) (v := ?_) rfl (by kernel_rfl) (by kernel_rfl) (by kernel_rfl) (fun _ _ _ h => h) (Or.inl ⟨by rfl, ?_⟩) (by assumption) ?_
      rotate_left
      · (intro w hSw; go_simp; try (with_reducible rfl))
      try simp only [Act.put, List.getElem_toArray, List.getElem_cons_zero, List.getElem_cons_succ, List.setIfInBounds_toArray, List.set_cons_zero, List.set_cons_succ]
      refine wpAnyH_ready (rs := [7]) (by kernel_rfl) (by simp) ?_
      refine AllReadyH.cons rfl (fun K hK => ?_) AllReadyH.nil
      go_simp
      refine (Calls.heldR (HC _ (by assumption)).out (by assumption)).mono ?_
      rintro e wr7 ⟨rfl, hS7⟩
      go_wp2_with fail
      refine hK.out _ _ hS7 (fun hHeld => ?_)
      clear hK K
      try simp only [Act.put, List.getElem_toArray, List.getElem_cons_zero, List.getElem_cons_succ, List.setIfInBounds_toArray, List.set_cons_zero, List.set_cons_succ]
      refine wpAnyH_take (i := 8) (v := ?_) rfl (by kernel_rfl) (by kernel_rfl) (by kernel_rfl) (fun _ _ _ h => h) (Or.inl ⟨by rfl, ?_⟩) (by assumption) ?_
      rotate_left
      · (intro w hSw; go_simp; try (with_reducible rfl))
      try simp only [Act.put, List.getElem_toArray, List.getElem_cons_zero, List.getElem_cons_succ, List.setIfInBounds_toArray, List.set_cons_zero, List.set_cons_succ]
      refine wpAnyH_take (i := 9) (v := ?_) rfl (by kernel_rfl) (by kernel_rfl) (by kernel_rfl) (fun _ _ _ h => h) (Or.inl ⟨by rfl, ?_⟩) (by assumption) ?_
      rotate_left
      · (intro w hSw; go_simp; try (with_reducible rfl))
      try simp only [Act.put, List.getElem_toArray, List.getElem_cons_zero, List.getElem_cons_succ, List.setIfInBounds_toArray, List.set_cons_zero, List.set_cons_succ]
      refine wpAnyH_done (by kernel_rfl) ?_ _
      refine NoPanic.normal ?_
      have HR3 := Lib.hid (HR2.out.below hHeld.bel)
      have HB3 := Lib.hid (chain HB2.out hHeld.bel)
      go_wp2_with fail
      refine (addrOf4_any n _ HLE.out).mono ?_
      rintro e w5 ⟨rfl, hb5⟩
      have HR4 := Lib.hid (HR3.out.below hb5)
      have HB4 := Lib.hid (chain HB3.out hb5)
      have HLN := Lib.hid (b4_len n)
      go_wp2_with (refine store_addr HR4 _ _ HLN rfl rfl rfl rfl (fun W HW HA => ?_))
      refine bodyPost_ret (v := addrV 4 (b4 n)) (results_addr Tryd.results35 rfl HA.out) rfl ⟨by rw [HE.out.1, HE.out.2], by rw [HW.out]; exact below_cells (by omega) _ _ _ HB4.out⟩
    | false =>
      rw [hm] at q1
      have q2 : ∀ W, (binOp .neq 23 (arr16 bs) (arr16 (mapL n))).run Tryd.prog W = .ok (.bool true) W := q1
      have HE : Hid (unmapF 6 bs = 6 ∧ unmapB 6 bs = bs) := Lib.hid ⟨by unfold unmapF isMap; rw [hm]; rfl, by unfold unmapB isMap; rw [hm]; rfl⟩
      clear q1 hm
      refine wp_region_held_drew (S := HeldR L w1) (by kernel_rfl) HK.out.drew (fun hHeld => ?_)
      refine wpAnyH_take (i := 0) (v := ?_) rfl (by kernel_rfl) (by kernel_rfl) (by kernel_rfl) (fun _ _ _ h => h) (Or.inl ⟨by rfl, ?_⟩) (by assumption) ?_
      rotate_left
      · (intro w hSw; go_simp; try (with_reducible rfl))
      try simp only [Act.put, List.getElem_toArray, List.getElem_cons_zero, List.setIfInBounds_toArray, List.set_cons_zero, List.set_cons_succ]
      refine wpAnyH_take (i := 1) (v := ?_) rfl (by kernel_rfl) (by kernel_rfl) (by kernel_rfl) (fun _ _ _ h => h) (Or.inl ⟨by rfl, ?_⟩) (by assumption) ?_
      rotate_left
      · (intro w hSw; have hc0 := M0.out w hSw; go_simp; try (with_reducible rfl))
      try simp only [Act.put, List.getElem_toArray, List.getElem_cons_zero, List.getElem_cons_succ, List.setIfInBounds_toArray, List.set_cons_zero, List.set_cons_succ]
      refine wpAnyH_take (i := 2) (v := ?_) rfl (by kernel_rfl) (by kernel_rfl) (by kernel_rfl) (fun _ _ _ h => h) (Or.inl ⟨by rfl, ?_⟩) (by assumption) ?_
      rotate_left
      · (intro w hSw; go_simp; try (with_reducible rfl))
      try simp only [Act.put, List.getElem_toArray, List.getElem_cons_zero, List.getElem_cons_succ, List.setIfInBounds_toArray, List.set_cons_zero, List.set_cons_succ]
      refine wpAnyH_take (i := 3) (v := ?_) rfl (by kernel_rfl) (by kernel_rfl) (by kernel_rfl) (fun _ _ _ h => h) (Or.inl ⟨by rfl, ?_⟩) (by assumption) ?_
      rotate_left
      · (intro w hSw; go_simp; try (with_reducible rfl))
      try simp only [Act.put, List.getElem_toArray, List.getElem_cons_zero, List.getElem_cons_succ, List.setIfInBounds_toArray, List.set_cons_zero, List.set_cons_succ]
      refine wpAnyH_take (i := 4) (v := ?_) rfl (by kernel_rfl) (by kernel_rfl) (by kernel_rfl) (fun _ _ _ h => h) (Or.inl ⟨by rfl, ?_⟩) (by assumption) ?_
      rotate_left
      · (intro w hSw; go_simp; try (with_reducible rfl))
      try simp only [Act.put, List.getElem_toArray, List.getElem_cons_zero, List.getElem_cons_succ, List.setIfInBounds_toArray, List.set_cons_zero, List.set_cons_succ]
      refine wpAnyH_take (i := 5) rfl (by kernel_rfl) (by kernel_rfl) (by kernel_rfl) (fun _ _ _ h => h) (yields_b16 M1 (by rfl) _ rfl rfl) (by assumption) ?_
      try simp only [Act.put, List.getElem_toArray, List.getElem_cons_zero, List.getElem_cons_succ, List.setIfInBounds_toArray, List.set_cons_zero, List.set_cons_succ]
      refine wpAnyH_take (i := 6) (v := ?_) rfl (by kernel_rfl) (by kernel_rfl) (by kernel_rfl) (fun _ _ _ h => h) (Or.inl ⟨by rfl, ?_⟩) (by assumption) ?_
      rotate_left
      · (intro w hSw; go_simp; try (with_reducible rfl))
      try simp only [Act.put, List.getElem_toArray, List.getElem_cons_zero, List.getElem_cons_succ, List.setIfInBounds_toArray, List.set_cons_zero, List.set_cons_succ]
      refine wpAnyH_ready (rs := [7]) (by kernel_rfl) (by simp) ?_
      refine AllReadyH.cons rfl (fun K hK => ?_) AllReadyH.nil
      go_simp
      refine (Calls.heldR (HC _ (by assumption)).out (by assumption)).mono ?_
      rintro e wr7 ⟨rfl, hS7⟩
      go_wp2_with fail
      refine hK.out _ _ hS7 (fun hHeld => ?_)
      clear hK K
      try simp only [Act.put, List.getElem_toArray, List.getElem_cons_zero, List.getElem_cons_succ, List.setIfInBounds_toArray, List.set_cons_zero, List.set_cons_succ]
      refine wpAnyH_take (i := 8) (v := ?_) rfl (by kernel_rfl) (by kernel_rfl) (by kernel_rfl) (fun _ _ _ h => h) (Or.inl ⟨by rfl, ?_⟩) (by assumption) ?_
      rotate_left
      · (intro w hSw; go_simp; try (with_reducible rfl))
      try simp only [Act.put, List.getElem_toArray, List.getElem_cons_zero, List.getElem_cons_succ, List.setIfInBounds_toArray, List.set_cons_zero, List.set_cons_succ]
      refine wpAnyH_take (i := 9) (v := ?_) rfl (by kernel_rfl) (by kernel_rfl) (by kernel_rfl) (fun _ _ _ h => h) (Or.inl ⟨by rfl, ?_⟩) (by assumption) ?_
      rotate_left
      · (intro w hSw; go_simp; try (with_reducible rfl))
      try simp only [Act.put, List.getElem_toArray, List.getElem_cons_zero, List.getElem_cons_succ, List.setIfInBounds_toArray, List.set_cons_zero, List.set_cons_succ]
      refine wpAnyH_done (by kernel_rfl) ?_ _
      refine NoPanic.normal ?_
      have HR3 := Lib.hid (HR2.out.below hHeld.bel)
      have HA3 := Lib.hid (HA2.out.below hHeld.bel)
      have HB3 := Lib.hid (chain HB2.out hHeld.bel)
      go_wp2_with (first | refine load_addr_g HA3 _ rfl rfl rfl ?_ | (refine store_addr HR3 _ _ H16 rfl rfl rfl rfl (fun W HW HA => ?_)))
      refine bodyPost_ret (v := addrV 6 bs) (results_addr Tryd.results35 rfl HA.out) rfl ⟨by rw [HE.out.1, HE.out.2], by rw [HW.out]; exact below_cells (by omega) _ _ _ HB3.out⟩
  · have n6 : (f != 6) = true := by simp [h6]
    have HE : Hid (unmapF f bs = f ∧ unmapB f bs = bs) := Lib.hid ⟨by unfold unmapF isMap; simp [h6], by unfold unmapB isMap; simp [h6]⟩
    refine wp_region_held_drew (S := HeldR L w1) (by kernel_rfl) HK.out.drew (fun hHeld => ?_)
    refine wpAnyH_take (i := 0) (v := ?_) rfl (by kernel_rfl) (by kernel_rfl) (by kernel_rfl) (fun _ _ _ h => h) (Or.inl ⟨by rfl, ?_⟩) (by assumption) ?_
    rotate_left
    · (intro w hSw; go_simp; try (with_reducible rfl))
    try simp only [Act.put, List.getElem_toArray, List.getElem_cons_zero, List.setIfInBounds_toArray, List.set_cons_zero, List.set_cons_succ]
    refine wpAnyH_take (i := 1) (v := ?_) rfl (by kernel_rfl) (by kernel_rfl) (by kernel_rfl) (fun _ _ _ h => h) (Or.inl ⟨by rfl, ?_⟩) (by assumption) ?_
    rotate_left
    · (intro w hSw; have hc0 := M0.out w hSw; go_simp; try (with_reducible rfl))
    try simp only [Act.put, List.getElem_toArray, List.getElem_cons_zero, List.getElem_cons_succ, List.setIfInBounds_toArray, List.set_cons_zero, List.set_cons_succ]
    refine wpAnyH_take (i := 2) (v := ?_) rfl (by kernel_rfl) (by kernel_rfl) (by kernel_rfl) (fun _ _ _ h => h) (Or.inl ⟨by rfl, ?_⟩) (by assumption) ?_
    rotate_left
    · (intro w hSw; go_simp; try (with_reducible rfl))
    try simp only [Act.put, List.getElem_toArray, List.getElem_cons_zero, List.getElem_cons_succ, List.setIfInBounds_toArray, List.set_cons_zero, List.set_cons_succ]
    refine wpAnyH_take (i := 3) (v := ?_) rfl (by kernel_rfl) (by kernel_rfl) (by kernel_rfl) (fun _ _ _ h => h) (Or.inl ⟨by rfl, ?_⟩) (by assumption) ?_
    rotate_left
    · (intro w hSw; go_simp; try (with_reducible rfl))
    try simp only [Act.put, List.getElem_toArray, List.getElem_cons_zero, List.getElem_cons_succ, List.setIfInBounds_toArray, List.set_cons_zero, List.set_cons_succ]
    refine wpAnyH_take (i := 4) (v := undef) rfl (by kernel_rfl) (by kernel_rfl) (by kernel_rfl) (fun _ _ _ h => h) (Or.inr ⟨by rfl, rfl⟩) (by assumption) ?_
    try simp only [Act.put, List.getElem_toArray, List.getElem_cons_zero, List.getElem_cons_succ, List.setIfInBounds_toArray, List.set_cons_zero, List.set_cons_succ]
    refine wpAnyH_take (i := 5) (v := undef) rfl (by kernel_rfl) (by kernel_rfl) (by kernel_rfl) (fun _ _ _ h => h) (Or.inr ⟨by rfl, rfl⟩) (by assumption) ?_
    try simp only [Act.put, List.getElem_toArray, List.getElem_cons_zero, List.getElem_cons_succ, List.setIfInBounds_toArray, List.set_cons_zero, List.set_cons_succ]
    refine wpAnyH_take (i := 6) (v := undef) rfl (by kernel_rfl) (by kernel_rfl) (by kernel_rfl) (fun _ _ _ h => h) (Or.inr ⟨by rfl, rfl⟩) (by assumption) ?_
    try simp only [Act.put, List.getElem_toArray, List.getElem_cons_zero, List.getElem_cons_succ, List.setIfInBounds_toArray, List.set_cons_zero, List.set_cons_succ]
    refine wpAnyH_take (i := 7) (v := undef) rfl (by kernel_rfl) (by kernel_rfl) (by kernel_rfl) (fun _ _ _ h => h) (Or.inr ⟨by rfl, rfl⟩) (by assumption) ?_
    try simp only [Act.put, List.getElem_toArray, List.getElem_cons_zero, List.getElem_cons_succ, List.setIfInBounds_toArray, List.set_cons_zero, List.set_cons_succ]
    refine wpAnyH_take (i := 8) (v := undef) rfl (by kernel_rfl) (by kernel_rfl) (by kernel_rfl) (fun _ _ _ h => h) (Or.inr ⟨by rfl, rfl⟩) (by assumption) ?_
    try simp only [Act.put, List.getElem_toArray, List.getElem_cons_zero, List.getElem_cons_succ, List.setIfInBounds_toArray, List.set_cons_zero, List.set_cons_succ]
    refine wpAnyH_take (i := 9) (v := ?_) rfl (by kernel_rfl) (by kernel_rfl) (by kernel_rfl) (fun _ _ _ h => h) (Or.inl ⟨by rfl, ?_⟩) (by assumption) ?_
    rotate_left
    · (intro w hSw; go_simp; try (with_reducible rfl))
    try simp only [Act.put, List.getElem_toArray, List.getElem_cons_zero, List.getElem_cons_succ, List.setIfInBounds_toArray, List.set_cons_zero, List.set_cons_succ]
    refine wpAnyH_done (by kernel_rfl) ?_ _
    refine NoPanic.normal ?_
    have HR3 := Lib.hid (HR2.out.below hHeld.bel)
    have HA3 := Lib.hid (HA2.out.below hHeld.bel)
    have HB3 := Lib.hid (chain HB2.out hHeld.bel)
    go_wp2_with (first | refine load_addr_g HA3 _ rfl rfl rfl ?_ | (refine store_addr HR3 _ _ H16 rfl rfl rfl rfl (fun W HW HA => ?_)))
    refine bodyPost_ret (v := addrV f bs) (results_addr Tryd.results35 rfl HA.out) rfl ⟨by rw [HE.out.1, HE.out.2], by rw [HW.out]; exact below_cells (by omega) _ _ _ HB3.out⟩
end Go.Proofs.YtgbajagacmfcmaaDoor
/- Contracts of the landed space: isSpace, Less, Add, New, Of. -/
namespace Go.Proofs.YtgbajagacmfcmaaDoor
open Go.RowKit
set_option linter.unusedVariables false
set_option maxRecDepth 20000

/-- There is such a space. -/
def isSp (x : Int) : Bool := decide (0 ≤ x ∧ x < 3)
theorem isSpace_any (x : Int) (w : World) : Calls Tryd.prog 37 #[.int .i64 x] w fun e w' => e = .returned (.bool (isSp x)) ∧ w' = w := by
  by_cases h0 : 0 ≤ x
  · have hd : decide (0 ≤ x) = true := by simp; omega
    by_cases h3 : x < 3
    · have hd3 : decide (x < 3) = true := by simp; omega
      have e : isSp x = true := by unfold isSp; simp; omega
      rw [e]
      clear e
      go_enter Tryd.func37, Tryd.ntmps37
      go_wp2_with fail
      go_ret
      exact ⟨rfl, rfl⟩
    · have hd3 : decide (x < 3) = false := by simp; omega
      have e : isSp x = false := by unfold isSp; simp; omega
      rw [e]
      clear e
      go_enter Tryd.func37, Tryd.ntmps37
      go_wp2_with fail
      go_ret
      exact ⟨rfl, rfl⟩
  · have hd : decide (0 ≤ x) = false := by simp; omega
    have e : isSp x = false := by unfold isSp; simp; omega
    rw [e]
    clear e
    go_enter Tryd.func37, Tryd.ntmps37
    go_wp2_with fail
    go_ret
    exact ⟨rfl, rfl⟩
theorem less_any (x y : Int) (w : World) : Calls Tryd.prog 28 #[.int .i64 x, .int .i64 y] w fun e w' => e = .returned (.bool (decide (x < y))) ∧ w' = w := by
  go_enter Tryd.func28, Tryd.ntmps28
  go_wp2_with fail
  go_ret
  exact ⟨rfl, rfl⟩
theorem addE_in (es : List Ent) (f : Int) (bs : List Nat) (n x : Int) (h : isSp x = true) : addE es f bs n x = setE es f bs n x ∧ addC f bs n x = if mayP f bs n = true then 0 else 1 := by
  unfold isSp at h
  have := of_decide_eq_true h
  exact ⟨by unfold addE; rw [if_neg (by omega)], by unfold addC; rw [if_neg (by omega)]⟩
theorem addE_out (es : List Ent) (f : Int) (bs : List Nat) (n x : Int) (h : isSp x = false) : addE es f bs n x = es ∧ addC f bs n x = 1 := by
  unfold isSp at h
  have := of_decide_eq_false h
  exact ⟨by unfold addE; rw [if_pos (by omega)], by unfold addC; rw [if_pos (by omega)]⟩
theorem addE_len (es : List Ent) (f : Int) (bs : List Nat) (n x : Int) : (addE es f bs n x).length ≤ es.length + 1 := by
  unfold addE
  split
  · omega
  · exact setE_len es f bs n x
set_option maxRecDepth 100000 in
set_option maxHeartbeats 1000000 in
theorem mapAdd_any (G : Nat) (es : List Ent) (st : Int) (F : List Nat) (f : Int) (bs : List Nat) (n x : Int) (w : World) (hA : TabAt w G es st F) (h16 : bs.length = 16) (hlt : ∀ y ∈ bs, y < 256) (hn : (Lit.int .i64 n).wf = true) (hx : (Lit.int .i64 x).wf = true) (hle : es.length ≤ 999) :
    Calls Tryd.prog 14 #[.pointer (some ⟨G, 0, none⟩), prefV f bs n, .int .i64 x] w fun e w' => e = .returned (.int .i64 (addC f bs n x)) ∧ ∃ F', TabAt w' G (addE es f bs n x) st F' ∧ Foot F F' w w' := by
  have HIS := fun W => Lib.hid (isSpace_any x W)
  have HIN := Lib.hid (addE_in es f bs n x)
  have HOU := Lib.hid (addE_out es f bs n x)
  have HST := fun W (h : TabAt W G es st F) => Lib.hid (tabSet_any G es st F f bs n x W h h16 hlt hn hx hle)
  obtain ⟨cs, ecs, HP, HB⟩ := pref_boxed f bs n w h16
  have HA := Lib.hid (hA.below HB.out)
  have HFL := Lib.hid hA.lt.2
  have H16 := Lib.hid h16
  rw [ecs]
  obtain ⟨R, hR⟩ : ∃ R, addE es f bs n x = R := ⟨_, rfl⟩
  obtain ⟨c, hc⟩ : ∃ c, addC f bs n x = c := ⟨_, rfl⟩
  rw [hR, hc] at HIN HOU ⊢
  obtain ⟨c0, hc0⟩ : ∃ c0 : Int, (if mayP f bs n = true then (0 : Int) else 1) = c0 := ⟨_, rfl⟩
  rw [hc0] at HST HIN
  clear hc0
  clear ecs h16 hlt hn hx hA hR hc
  generalize isSp x = t at *
  go_enter Tryd.func14, Tryd.ntmps14
  go_upto_region 1 with fail
  generalize (w.alloc (.cells cs 27)) = W at *
  cases t with
  | false =>
    have HE := Lib.hid (HOU.out rfl)
    clear HIN HOU HST
    go_wp2_with fail
    refine (HIS _).out.mono ?_
    rintro e w1 ⟨rfl, rfl⟩
    clear HIS
    go_wp2_with fail
    go_ret
    exact ⟨by rw [HE.out.2]; rfl, F, by rw [HE.out.1]; exact HA.out, Foot.ofBelow _ HB.out⟩
  | true =>
    have HE := Lib.hid (HIN.out rfl)
    clear HIN HOU
    go_wp2_with fail
    refine (HIS _).out.mono ?_
    rintro e w1 ⟨rfl, rfl⟩
    clear HIS
    go_wp2_with fail
    obtain ⟨L, hL⟩ : ∃ L, [(w.heap.size, 0, prefL f bs n)] = L := ⟨_, rfl⟩
    have HK : Hid (HeldL L w1.drew) := Lib.hid (by rw [← hL]; intro y hy; rw [List.mem_singleton.1 hy]; exact HP.out.range)
    have MP : Hid (InL L w.heap.size 0 (prefL f bs n)) := Lib.hid (fun W h => h.get (by rw [← hL]; simp))
    have HKN : Hid (∀ W' F', Foot F F' w1 W' → HeldL L W') := Lib.hid (fun W' F' hf => by
      rw [← hL]; intro y hy; rw [List.mem_singleton.1 hy]
      exact range_foot hf HP.out.range HP.out.addr.lt (fun e => by have := HFL.out _ e; omega))
    clear hL
    refine wp_region_noPanic ?_
    refine wp_region_held_drew (S := HeldL L) (by kernel_rfl) HK.out (fun hHeld => ?_)
    refine wpAnyH_take (i := 0) (v := ?_) rfl (by kernel_rfl) (by kernel_rfl) (by kernel_rfl) (fun _ _ _ h => h) (Or.inl ⟨by rfl, ?_⟩) (by assumption) ?_
    rotate_left
    · (intro w hSw; go_simp; try (with_reducible rfl))
    try simp only [Act.put, List.getElem_toArray, List.getElem_cons_zero, List.setIfInBounds_toArray, List.set_cons_zero, List.set_cons_succ]
    refine wpAnyH_take (i := 1) (v := ?_) rfl (by kernel_rfl) (by kernel_rfl) (by kernel_rfl) (fun _ _ _ h => h) (Or.inl ⟨by rfl, ?_⟩) (by assumption) ?_
    rotate_left
    · (intro w hSw; go_simp; try (with_reducible rfl))
    try simp only [Act.put, List.getElem_toArray, List.getElem_cons_zero, List.getElem_cons_succ, List.setIfInBounds_toArray, List.set_cons_zero, List.set_cons_succ]
    refine wpAnyH_take (i := 2) (v := ?_) rfl (by kernel_rfl) (by kernel_rfl) (by kernel_rfl) (fun _ _ _ h => h) (Or.inl ⟨by rfl, ?_⟩) (by assumption) ?_
    rotate_left
    · (intro w hSw; go_simp; try (with_reducible rfl))
    try simp only [Act.put, List.getElem_toArray, List.getElem_cons_zero, List.getElem_cons_succ, List.setIfInBounds_toArray, List.set_cons_zero, List.set_cons_succ]
    refine wpAnyH_take (i := 3) rfl (by kernel_rfl) (by kernel_rfl) (by kernel_rfl) (fun _ _ _ h => h) (yields_pref_l H16 MP (by rfl) _ rfl rfl) (by assumption) ?_
    try simp only [Act.put, List.getElem_toArray, List.getElem_cons_zero, List.getElem_cons_succ, List.setIfInBounds_toArray, List.set_cons_zero, List.set_cons_succ]
    refine wpAnyH_take (i := 4) (v := ?_) rfl (by kernel_rfl) (by kernel_rfl) (by kernel_rfl) (fun _ _ _ h => h) (Or.inl ⟨by rfl, ?_⟩) (by assumption) ?_
    rotate_left
    · (intro w hSw; go_simp; try (with_reducible rfl))
    try simp only [Act.put, List.getElem_toArray, List.getElem_cons_zero, List.getElem_cons_succ, List.setIfInBounds_toArray, List.set_cons_zero, List.set_cons_succ]
    refine wpAnyH_ready (rs := [5]) (by kernel_rfl) (by simp) ?_
    refine AllReadyH.cons rfl (fun K hK => ?_) AllReadyH.nil
    go_simp
    refine (HST w1.drew (HA.out.below (Below.refl _ _).drew)).out.mono ?_
    rintro e w2 ⟨rfl, F', hT2, hf2⟩
    have HT2 := Lib.hid hT2
    have HF2 : Hid (Foot F F' w1 w2) := Lib.hid ((Foot.ofBelow F (Below.refl _ _).drew).trans hf2)
    have hS2 := HKN.out w2 F' HF2.out
    clear hT2 hf2 HST
    go_wp2_with fail
    refine hK.out _ _ hS2 (fun hHeld2 => ?_)
    clear hK K
    try simp only [Act.put, List.getElem_toArray, List.getElem_cons_zero, List.getElem_cons_succ, List.setIfInBounds_toArray, List.set_cons_zero, List.set_cons_succ]
    refine wpAnyH_take (i := 6) (v := ?_) rfl (by kernel_rfl) (by kernel_rfl) (by kernel_rfl) (fun _ _ _ h => h) (Or.inl ⟨by rfl, ?_⟩) (by assumption) ?_
    rotate_left
    · (intro w hSw; go_simp; try (with_reducible rfl))
    try simp only [Act.put, List.getElem_toArray, List.getElem_cons_zero, List.getElem_cons_succ, List.setIfInBounds_toArray, List.set_cons_zero, List.set_cons_succ]
    refine wpAnyH_done (by kernel_rfl) ?_ _
    refine NoPanic.normal ?_
    go_wp2_with fail
    go_ret
    exact ⟨by rw [HE.out.2]; rfl, F', by rw [HE.out.1]; exact HT2.out, (Foot.ofBelow F HB.out).trans HF2.out⟩
/-- A fresh map of nothing. -/
theorem map_new (w : World) : TabAt (w.alloc (.cells #[.slice none 0 0, .int .i64 0] 43)) w.heap.size [] 0 [w.heap.size] := by
  have hh : (w.alloc (.cells #[.slice none 0 0, .int .i64 0] 43)).heap[w.heap.size]? = some (.cells #[.slice none 0 0, .int .i64 0] 43) := by show (w.heap.push _)[w.heap.size]? = _; simp
  refine ⟨.slice none 0 0, rfl, ⟨by simp, ?_, ?_, ?_, ?_⟩, RowT.nil _ _, sorted_nil, (fun g hg => by cases hg)⟩
  · rw [cell_of_row _ _ 0 _ _ _ hh]; rfl
  · rw [cell_of_row _ _ 1 _ _ _ hh]; rfl
  · unfold World.frozen?; rw [hh]; rfl
  · unfold World.frozen?; rw [hh]; rfl
/-- What there is when entries are added one behind the other. -/
def newA (rs : List Raw) (k : Nat) : List Ent := (rs.take k).foldl (fun es r => addE es r.f r.b r.n r.v) []
theorem newA_succ (rs : List Raw) (k : Nat) (hk : k < rs.length) : newA rs (k + 1) = addE (newA rs k) rs[k].f rs[k].b rs[k].n rs[k].v := foldl_take (fun (es : List Ent) (r : Raw) => addE es r.f r.b r.n r.v) [] rs k hk
theorem newA_len (rs : List Raw) : ∀ k, (newA rs k).length ≤ k
  | 0 => by simp [newA]
  | k + 1 => by
    by_cases hk : k < rs.length
    · rw [newA_succ rs k hk]
      have h1 := addE_len (newA rs k) rs[k].f rs[k].b rs[k].n rs[k].v
      have h2 := newA_len rs k
      omega
    · have : rs.take (k + 1) = rs.take k := by rw [List.take_of_length_le (by omega), List.take_of_length_le (by omega)]
      unfold newA
      rw [this]
      exact Nat.le_trans (newA_len rs k) (Nat.le_succ _)
/-- As range_raw, from anywhere in a block. -/
theorem range_raw_o {w : World} {g o : Nat} {rs : List Raw} (h : w.rangeAt g o (flatR rs)) (hg : AllOk rs) (k : Nat) (hk : k < rs.length) : w.rangeAt g (o + k * 19) (entL rs[k].f rs[k].b rs[k].n rs[k].v) := by
  intro j u hu
  have hl := Raw.L_len (rs[k]) (hg _ (List.getElem_mem hk))
  have hj : j < 19 := by
    apply Classical.byContradiction
    intro h2
    rw [List.getElem?_eq_none (by show (rs[k]).L.length ≤ j; omega)] at hu
    cases hu
  have := h (k * 19 + j) u (by rw [flatR_at rs hg k hk j hj]; exact hu)
  rw [← Nat.add_assoc] at this
  exact this
set_option maxRecDepth 100000 in
set_option maxHeartbeats 1000000 in
theorem mapNew_some (g o cap : Nat) (rs : List Raw) (w : World) (hr : w.rangeAt g o (flatR rs)) (hg : g < w.heap.size) (hok : AllOk rs) (hle : rs.length ≤ 900) :
    Calls Tryd.prog 9 #[.slice (some ⟨g, o, none⟩) rs.length cap] w fun e w' => ∃ G F, e = .returned (.pointer (some ⟨G, 0, none⟩)) ∧ TabAt w' G (newA rs rs.length) 0 F ∧ (∀ k ∈ F, w.heap.size ≤ k) ∧ Below w.heap.size w w' := by
  have HR := Lib.hid hr
  have HG := Lib.hid hg
  have HOK := Lib.hid hok
  have HT0 := Lib.hid (map_new w)
  have HB0 : Hid (Below w.heap.size w (w.alloc (.cells #[.slice none 0 0, .int .i64 0] 43))) := Lib.hid ((Below.refl _ _).alloc (Nat.le_refl _) _)
  obtain ⟨N, hN⟩ : ∃ N, rs.length = N := ⟨_, rfl⟩
  rw [hN] at hle ⊢
  have HN := Lib.hid hN
  clear hr hg hok hN
  go_enter Tryd.func9, Tryd.ntmps9
  go_upto_region 2 with fail
  generalize (w.alloc (.cells #[.slice none 0 0, .int .i64 0] 43)) = W at *
  go_wp2_with fail
  go_loopw [10] (fun i wr => ∃ (k : Nat) (F : List Nat), k ≤ N ∧ i = .int .i64 (k : Int) ∧ Hid (TabAt wr w.heap.size (newA rs k) 0 F) ∧ Hid (∀ j ∈ F, w.heap.size ≤ j) ∧ Hid (Below w.heap.size w wr)) (fun i _ => N - (intOf i).toNat)
  case atStart => exact ⟨0, [w.heap.size], Nat.zero_le _, rfl, HT0, Lib.hid (by simp), HB0⟩
  case round =>
    obtain ⟨k, F, hk, rfl, HT, HF, HB⟩ := hrel
    clear HT0 HB0
    by_cases hkN : k < N
    · have hd : decide ((k : Int) < (N : Int)) = true := by simp; omega
      have hkr : k < rs.length := by rw [HN.out]; exact hkN
      obtain ⟨r, hrk⟩ : ∃ r, rs[k] = r := ⟨_, rfl⟩
      have HRK : Hid (wr.rangeAt g (o + k * 19) (entL r.f r.b r.n r.v)) := Lib.hid (by have := range_raw_o (range_belowB HR.out HB.out HG.out) HOK.out k hkr; rw [hrk] at this; exact this)
      have HOR : Hid r.Ok := Lib.hid (by rw [← hrk]; exact HOK.out _ (List.getElem_mem hkr))
      have HSU : Hid (newA rs (k + 1) = addE (newA rs k) r.f r.b r.n r.v) := Lib.hid (by rw [newA_succ rs k hkr, hrk])
      have H16 := Lib.hid HOR.out.1
      have HZ := Lib.hid (entT_zeroed wr)
      have hb1 : (0 : Int) ≤ (k : Int) := by omega
      have hb2 : (k : Int) < (N : Int) := by omega
      clear hrk hkr
      go_upto_region 5 with (first | refine load_entT_o H16 HRK _ rfl rfl rfl ?_ | refine store_entT HZ _ _ H16 rfl rfl rfl rfl (fun W1 HW1 HE1 => ?_))
      have HB1 := Lib.hid (below_newT HW1)
      have HT1 := Lib.hid (HT.out.below HB1.out)
      have HBB := Lib.hid (chain HB.out HB1.out)
      have HEP := Lib.hid HE1.out.pref
      have hval := HE1.out.val
      clear HRK HZ HT HW1
      go_wp2_with (refine load_pref_o H16 HEP _ rfl rfl rfl ?_)
      refine (mapAdd_any w.heap.size (newA rs k) 0 F r.f r.b r.n r.v W1 HT1.out HOR.out.1 HOR.out.2.1 HOR.out.2.2.1 HOR.out.2.2.2 (Nat.le_trans (newA_len rs k) (by omega))).mono ?_
      rintro e w2 ⟨rfl, F2, hT2, hf2⟩
      have HT2 : Hid (TabAt w2 w.heap.size (newA rs (k + 1)) 0 F2) := Lib.hid (by rw [HSU.out]; exact hT2)
      have HF2 : Hid (∀ j ∈ F2, w.heap.size ≤ j) := Lib.hid (fun j hj => by
        rcases hf2.new j hj with e | e
        · exact HF.out j e
        · exact Nat.le_trans HBB.out.size e)
      have HB2 := Lib.hid (HBB.out.trans (hf2.below HF.out HBB.out.size))
      clear HT1 HEP hval HE1 HBB HF hT2 hf2 HB1 HB
      go_wp2_with fail
      go_roundw
      case rel => exact ⟨k + 1, F2, by omega, by go_num, HT2, HF2, HB2⟩
      case measure => simp [intOf]; omega
    · obtain rfl : k = N := by omega
      have hd : decide ((k : Int) < (k : Int)) = false := by simp
      go_wp2_with fail
      go_ret
      exact ⟨w.heap.size, F, rfl, HT.out, HF.out, HB.out⟩
theorem mapNew_nil (a : Option Addr) (cap : Nat) (w : World) : Calls Tryd.prog 9 #[.slice a 0 cap] w fun e w' => ∃ G F, e = .returned (.pointer (some ⟨G, 0, none⟩)) ∧ TabAt w' G [] 0 F ∧ (∀ k ∈ F, w.heap.size ≤ k) ∧ Below w.heap.size w w' := by
  have HT0 := Lib.hid (map_new w)
  have HB0 : Hid (Below w.heap.size w (w.alloc (.cells #[.slice none 0 0, .int .i64 0] 43))) := Lib.hid ((Below.refl _ _).alloc (Nat.le_refl _) _)
  go_enter Tryd.func9, Tryd.ntmps9
  go_upto_region 2 with fail
  generalize (w.alloc (.cells #[.slice none 0 0, .int .i64 0] 43)) = W at *
  go_wp2_with fail
  go_loop [10] (fun i => i = .int .i64 0) (fun _ => 0)
  case atStart => rfl
  case round =>
    obtain rfl := hrel
    go_wp2_with fail
    go_ret
    exact ⟨w.heap.size, rfl, [w.heap.size], HT0.out, (fun k hk => by rw [List.mem_singleton.1 hk]; exact Nat.le_refl _), HB0.out⟩
end Go.Proofs.YtgbajagacmfcmaaDoor
/- What is printed of an address of 128 bits is read as it was: plain facts on texts. -/
namespace Go.Proofs.YtgbajagacmfcmaaDoor
open Go.RowKit
set_option linter.unusedVariables false
set_option maxRecDepth 20000

/-- Digits read one by one, as Number reads them. -/
def numL (b : Nat) : Nat → List UInt8 → Option Nat
  | n, [] => some n
  | n, c :: l => if b ≤ digC c.toNat then none else if most < n * b + digC c.toNat then none else numL b (n * b + digC c.toNat) l
theorem numL_append (b : Nat) (m : List UInt8) : ∀ (l : List UInt8) (n : Nat), numL b n (l ++ m) = match numL b n l with
    | none => none
    | some x => numL b x m
  | [], n => rfl
  | c :: l, n => by
    rw [List.cons_append, numL, numL]
    split
    · rfl
    · split
      · rfl
      · exact numL_append b m l _
theorem numTo_list (s : ByteArray) (b : Nat) : ∀ k, k ≤ s.size → numTo s b k = numL b 0 (s.data.toList.take k)
  | 0, _ => rfl
  | k + 1, h => by
    have hk : k < s.data.toList.length := by simp; omega
    rw [List.take_add_one, List.getElem?_eq_getElem hk, numL_append, ← numTo_list s b k (by omega), numTo]
    cases numTo s b k with
    | none => rfl
    | some n =>
      have e : byteOf s k = (s.data.toList[k]).toNat := by rw [byteOf_eq s k (by omega)]; rfl
      simp only [e, Option.toList, numL]
theorem numB_ofL (l : List UInt8) (b : Nat) (h : l ≠ []) : numB (ofL l) b = numL b 0 l := by
  unfold numB
  rw [ofL_size, if_neg (by intro h2; exact h (List.eq_nil_of_length_eq_zero h2)), numTo_list _ _ _ (by rw [ofL_size]; exact Nat.le_refl _), ofL_data, List.take_of_length_le (Nat.le_refl _)]
theorem groupL_num (n : Nat) (h : n ≤ most) : numL 16 0 (groupL n) = some n := by
  induction n using Nat.strongRecOn with
  | _ n ih =>
    by_cases h1 : n < 16
    · rw [groupL_one h1, numL, digC_hexc n h1, if_neg (by omega), if_neg (by omega), numL]
      simp
    · rw [groupL_more h1, numL_append, ih (n / 16) (by omega) (by omega)]
      simp only [numL]
      rw [digC_hexc _ (by omega), if_neg (by omega), if_neg (by omega)]
      congr 1
      omega
theorem groupL_ne (n : Nat) (h : n < 65536) : groupL n ≠ [] := by
  intro e
  have := (groupL_length n h).1
  rw [e] at this
  simp at this
theorem hexG_group (n : Nat) (h : n < 65536) : hexG (gS n) = some n := by
  unfold hexG gS
  rw [if_neg (by rw [ofL_size]; have := (groupL_length n h).2; omega), numB_ofL _ _ (groupL_ne n h), groupL_num n (by unfold most; omega)]
theorem groupL_mem (n : Nat) : ∀ c ∈ groupL n, c.toNat ≠ 58 := by
  have one : ∀ d, d < 16 → (hexc d).toNat ≠ 58 := by
    intro d hd
    rw [hexc_nat d hd]
    split <;> omega
  induction n using Nat.strongRecOn with
  | _ n ih =>
    by_cases h1 : n < 16
    · rw [groupL_one h1]
      intro c hc
      rw [List.mem_singleton] at hc
      rw [hc]
      exact one n h1
    · rw [groupL_more h1]
      intro c hc
      rcases List.mem_append.1 hc with h | h
      · exact ih (n / 16) (by omega) c h
      · rw [List.mem_singleton] at h
        rw [h]
        exact one _ (by omega)

/-- Groups with colons between, byte by byte. -/
def rowL : List Nat → List UInt8
  | [] => []
  | [x] => groupL x
  | x :: y :: r => groupL x ++ 58 :: rowL (y :: r)
theorem rowL_snoc (x : Nat) : ∀ l : List Nat, rowL (l ++ [x]) = (if 0 < l.length then rowL l ++ [58] else rowL l) ++ groupL x
  | [] => by simp [rowL]
  | [y] => by simp [rowL]
  | y :: z :: r => by
    have ih := rowL_snoc x (z :: r)
    rw [if_pos (by simp)] at ih
    rw [if_pos (by simp)]
    show rowL (y :: z :: (r ++ [x])) = _
    rw [rowL, rowL]
    have e : z :: (r ++ [x]) = (z :: r) ++ [x] := rfl
    rw [e, ih]
    simp
theorem rowS_list (l : List Nat) : (rowS l).data.toList = rowL l := by
  have key : ∀ n (l : List Nat), l.length = n → (joinB (l.map gS) { data := #[58] }).data.toList = rowL l := by
    intro n
    induction n with
    | zero =>
      intro l h
      have := List.eq_nil_of_length_eq_zero h
      subst this
      rfl
    | succ n ih =>
      intro l h
      obtain ⟨l', x, rfl⟩ : ∃ l' x, l = l' ++ [x] := ⟨l.dropLast, l.getLast (by intro e; rw [e] at h; simp at h), (List.dropLast_concat_getLast _).symm⟩
      have hl' : l'.length = n := by simp at h; exact h
      rw [List.map_append, List.map_cons, List.map_nil, joinB_snoc, rowL_snoc, data_append, List.length_map]
      have ih' := ih l' hl'
      by_cases h0 : 0 < l'.length
      · rw [if_pos h0, if_pos h0, data_append, ih']
        rfl
      · rw [if_neg h0, if_neg h0, ih']
        rfl
  have := key l.length l rfl
  unfold joinB at this
  rw [List.length_map] at this
  exact this
theorem rowS_ofL (l : List Nat) : rowS l = ofL (rowL l) := eq_ofL (rowS_list l)
theorem rowL_cut : ∀ l : List Nat, l ≠ [] → cutL 58 (rowL l) = l.map groupL
  | [], h => absurd rfl h
  | [x], _ => by rw [rowL, cutL_none 58 _ (groupL_mem x)]; rfl
  | x :: y :: r, _ => by
    rw [rowL, cutL_first 58 58 rfl _ _ (groupL_mem x), rowL_cut (y :: r) (by simp)]
    rfl
theorem rowL_ne (l : List Nat) (h : l ≠ []) (hlt : ∀ x ∈ l, x < 65536) : rowL l ≠ [] := by
  match l, h with
  | [x], _ => rw [rowL]; exact groupL_ne x (hlt x (by simp))
  | x :: y :: r, _ => rw [rowL]; simp
theorem grTo_row (l : List Nat) (dot : Bool) (hlt : ∀ x ∈ l, x < 65536) : ∀ k, k ≤ l.length → grTo (l.map gS) dot k = some (l.take k)
  | 0, _ => rfl
  | k + 1, h => by
    have hx : (l.map gS).getD k ⟨#[]⟩ = gS (l.getD k 0) := by
      rw [List.getD_eq_getElem?_getD, List.getD_eq_getElem?_getD, List.getElem?_map, List.getElem?_eq_getElem (by omega)]
      rfl
    have hl : l.getD k 0 < 65536 := by
      rw [List.getD_eq_getElem?_getD, List.getElem?_eq_getElem (by omega)]
      exact hlt _ (List.getElem_mem _)
    rw [grTo_hex (grTo_row l dot hlt k (by omega)) (by rw [hx]; exact hexG_group _ hl)]
    congr 1
    rw [List.take_add_one, List.getD_eq_getElem?_getD, List.getElem?_eq_getElem (by omega)]
    rfl
theorem groupsB_row (l : List Nat) (dot : Bool) (hlt : ∀ x ∈ l, x < 65536) : groupsB (ofL (rowL l)) dot = some l := by
  unfold groupsB
  by_cases h : l = []
  · subst h
    rw [if_pos (by rw [ofL_size]; rfl)]
  · have h2 : ¬ (ofL (rowL l)).size = 0 := by
      rw [ofL_size]
      intro e
      exact rowL_ne l h hlt (List.eq_nil_of_length_eq_zero e)
    have e : pieces (ofL (rowL l)) 58 = l.map gS := by
      rw [pieces_ofL, rowL_cut l h, List.map_map]
      rfl
    rw [if_neg h2, e, List.length_map, grTo_row l dot hlt _ (Nat.le_refl _), List.take_of_length_le (Nat.le_refl _)]

/-- No two colons stand side by side. -/
def noGap : List UInt8 → Prop
  | x :: y :: r => ¬ (x.toNat = 58 ∧ y.toNat = 58) ∧ noGap (y :: r)
  | _ => True
theorem noGap_at : ∀ (l : List UInt8) (j : Nat), noGap l → ¬ ((l.getD j 0).toNat = 58 ∧ (l.getD (j + 1) 0).toNat = 58)
  | [], j, _ => by simp
  | [x], 0, _ => by simp
  | [x], j + 1, _ => by simp
  | x :: y :: r, 0, h => by simpa using h.1
  | x :: y :: r, j + 1, h => by
    have := noGap_at (y :: r) j h.2
    simpa using this
theorem noGap_plain : ∀ l : List UInt8, (∀ c ∈ l, c.toNat ≠ 58) → noGap l
  | [], _ => trivial
  | [x], _ => trivial
  | x :: y :: r, h => ⟨fun h2 => h x (by simp) h2.1, noGap_plain (y :: r) (fun c hc => h c (by simp [hc]))⟩
/-- One text without colons, a colon, another text that begins with none. -/
theorem noGap_join : ∀ (a b : List UInt8), (∀ c ∈ a, c.toNat ≠ 58) → noGap b → (∃ c r, b = c :: r ∧ c.toNat ≠ 58) → a ≠ [] → noGap (a ++ 58 :: b)
  | [], b, _, _, _, h => absurd rfl h
  | [x], b, ha, hb, ⟨c, r, e, hc⟩, _ => by
    subst e
    exact ⟨fun h => ha x (by simp) h.1, fun h => hc h.2, hb⟩
  | x :: y :: r, b, ha, hb, he, _ => ⟨fun h => ha x (by simp) h.1, noGap_join (y :: r) b (fun c hc => ha c (by simp [hc])) hb he (by simp)⟩
theorem rowL_head : ∀ (l : List Nat), l ≠ [] → (∀ x ∈ l, x < 65536) → ∃ c r, rowL l = c :: r ∧ c.toNat ≠ 58
  | [], h, _ => absurd rfl h
  | [x], _, hlt => by
    rw [rowL]
    cases hg : groupL x with
    | nil => exact absurd hg (groupL_ne x (hlt x (by simp)))
    | cons c r => exact ⟨c, r, rfl, groupL_mem x c (by rw [hg]; simp)⟩
  | x :: y :: r, _, hlt => by
    rw [rowL]
    cases hg : groupL x with
    | nil => exact absurd hg (groupL_ne x (hlt x (by simp)))
    | cons c t => exact ⟨c, t ++ 58 :: rowL (y :: r), rfl, groupL_mem x c (by rw [hg]; simp)⟩
theorem rowL_gap : ∀ (l : List Nat), (∀ x ∈ l, x < 65536) → noGap (rowL l)
  | [], _ => trivial
  | [x], _ => by rw [rowL]; exact noGap_plain _ (groupL_mem x)
  | x :: y :: r, hlt => by
    rw [rowL]
    exact noGap_join _ _ (groupL_mem x) (rowL_gap (y :: r) (fun z hz => hlt z (by simp [hz]))) (rowL_head (y :: r) (by simp) (fun z hz => hlt z (by simp [hz]))) (groupL_ne x (hlt x (by simp)))
theorem rowL_last : ∀ (l : List Nat), (∀ x ∈ l, x < 65536) → l ≠ [] → ((rowL l).getD ((rowL l).length - 1) 0).toNat ≠ 58
  | [], _, h => absurd rfl h
  | [x], hlt, _ => by
    rw [rowL]
    have h0 := (groupL_length x (hlt x (by simp))).1
    rw [List.getD_eq_getElem?_getD, List.getElem?_eq_getElem (by omega)]
    exact groupL_mem x _ (List.getElem_mem _)
  | x :: y :: r, hlt, _ => by
    have ih := rowL_last (y :: r) (fun z hz => hlt z (by simp [hz])) (by simp)
    have hn : 0 < (rowL (y :: r)).length := List.length_pos_iff.2 (rowL_ne (y :: r) (by simp) (fun z hz => hlt z (by simp [hz])))
    rw [rowL]
    have e : (groupL x ++ 58 :: rowL (y :: r)).getD ((groupL x ++ 58 :: rowL (y :: r)).length - 1) 0 = (rowL (y :: r)).getD ((rowL (y :: r)).length - 1) 0 := by
      rw [List.getD_eq_getElem?_getD, List.getD_eq_getElem?_getD, List.length_append, List.length_cons, List.getElem?_append_right (by omega), show (groupL x).length + ((rowL (y :: r)).length + 1) - 1 - (groupL x).length = ((rowL (y :: r)).length - 1) + 1 by omega, List.getElem?_cons_succ]
    rw [e]
    exact ih

theorem gapTo_none_of (s : ByteArray) : ∀ k, (∀ j, j < k → ¬ (byteOf s j = 58 ∧ byteOf s (j + 1) = 58)) → gapTo s k = none
  | 0, _ => rfl
  | k + 1, h => by rw [gapTo, gapTo_none_of s k (fun j hj => h j (by omega))]; simp only [if_neg (h k (by omega))]
theorem gapB_none_of (l : List UInt8) (h : noGap l) : gapB (ofL l) = none :=
  gapTo_none_of _ _ (fun j _ => by rw [byteOf_ofL, byteOf_ofL]; exact noGap_at l j h)
theorem gapB_some_of (a b : List UInt8) (ha : noGap a) (hl : a = [] ∨ (a.getD (a.length - 1) 0).toNat ≠ 58) : gapB (ofL (a ++ 58 :: 58 :: b)) = some a.length := by
  unfold gapB
  apply gapTo_found (k := a.length + 1) (by rw [ofL_size]; simp)
  rw [gapTo, gapTo_none_of]
  · have e1 : byteOf (ofL (a ++ 58 :: 58 :: b)) a.length = 58 := by
      rw [byteOf_ofL, List.getD_eq_getElem?_getD, List.getElem?_append_right (Nat.le_refl _)]; simp
    have e2 : byteOf (ofL (a ++ 58 :: 58 :: b)) (a.length + 1) = 58 := by
      rw [byteOf_ofL, List.getD_eq_getElem?_getD, List.getElem?_append_right (by omega)]; simp
    simp only [e1, e2, and_self, if_true]
  · intro j hj
    rw [byteOf_ofL, byteOf_ofL]
    by_cases hj2 : j + 1 < a.length
    · have := noGap_at a j ha
      rw [List.getD_eq_getElem?_getD, List.getD_eq_getElem?_getD] at this ⊢
      rw [List.getElem?_append_left (by omega), List.getElem?_append_left hj2]
      exact this
    · have hj3 : j = a.length - 1 := by omega
      intro h
      rcases hl with hl | hl
      · subst hl; simp at hj
      · apply hl
        rw [← hj3]
        have := h.1
        rw [List.getD_eq_getElem?_getD, List.getElem?_append_left hj] at this
        rw [List.getD_eq_getElem?_getD]
        exact this

/-- What stands ahead of two colons and behind them, read. -/
theorem parse_merge (a b : List UInt8) (ha : noGap a) (hl : a = [] ∨ (a.getD (a.length - 1) 0).toNat ≠ 58) : parseB (ofL (a ++ 58 :: 58 :: b)) = mergeB (groupsB (ofL a) false) (groupsB (ofL b) true) := by
  unfold parseB
  rw [gapB_some_of a b ha hl]
  have e1 : (ofL (a ++ 58 :: 58 :: b)).extract 0 a.length = ofL a := eq_ofL (by rw [data_extract, ofL_data]; simp)
  have e2 : (ofL (a ++ 58 :: 58 :: b)).extract (a.length + 2) (ofL (a ++ 58 :: 58 :: b)).size = ofL b := eq_ofL (by
    rw [data_extract, ofL_data, ofL_size, show a ++ 58 :: 58 :: b = (a ++ [58, 58]) ++ b by simp, List.drop_append_of_le_length (by simp), List.drop_of_length_le (by simp)]
    simp
    exact List.take_of_length_le (by omega))
  simp only []
  rw [e1, e2]
theorem parse_plain (l : List UInt8) (h : noGap l) : parseB (ofL l) = match groupsB (ofL l) true with
    | none => none
    | some g => if g.length = 8 then some g else none := by
  unfold parseB
  rw [gapB_none_of l h]
  cases groupsB (ofL l) true <;> rfl

theorem zrun_zeros (gs : List Nat) : ∀ m i, zrun gs i = m → i + m ≤ 8 → ∀ j, i ≤ j → j < i + m → gs.getD j 0 = 0
  | 0, i, _, _, j, h1, h2 => by omega
  | m + 1, i, h, h8, j, h1, h2 => by
    by_cases h0 : gs.getD i 0 = 0
    · have e := zrun_zero (gs := gs) (i := i) (by omega) h0
      by_cases hj : j = i
      · rw [hj]; exact h0
      · exact zrun_zeros gs m (i + 1) (by omega) (by omega) j (by omega) (by omega)
    · have e := zrun_stop (gs := gs) (i := i) (.inr h0)
      omega
theorem runTo_zrun (gs : List Nat) : ∀ k, (runTo gs k).2 = 0 ∨ (2 ≤ (runTo gs k).2 ∧ (runTo gs k).2 = zrun gs (runTo gs k).1)
  | 0 => .inl rfl
  | k + 1 => by
    rw [runTo]
    split
    · rename_i h
      exact .inr ⟨h.1, rfl⟩
    · exact runTo_zrun gs k
/-- The groups ahead of a row of zeros, the zeros, the groups behind. -/
theorem run_split (gs : List Nat) (A K : Nat) (h8 : gs.length = 8) (hAK : A ≤ K) (hK : K ≤ 8) (hz : ∀ j, A ≤ j → j < K → gs.getD j 0 = 0) : gs.take A ++ List.replicate (K - A) 0 ++ gs.drop K = gs := by
  have e : List.replicate (K - A) 0 = (gs.drop A).take (K - A) := by
    apply List.ext_getElem
    · simp; omega
    · intro j h1 h2
      have hj : j < K - A := by simpa using h1
      have := hz (A + j) (by omega) (by omega)
      rw [List.getD_eq_getElem?_getD, List.getElem?_eq_getElem (by omega)] at this
      simp
      exact this.symm
  rw [e]
  have e2 : gs.drop K = (gs.drop A).drop (K - A) := by rw [List.drop_drop]; congr 1; omega
  rw [e2, List.append_assoc, List.take_append_drop, List.take_append_drop]

theorem parseB_len (s : ByteArray) (l : List Nat) (h : parseB s = some l) : l.length = 8 ∧ ∀ x ∈ l, x < 65536 := by
  unfold parseB at h
  cases hg : gapB s with
  | none =>
    rw [hg] at h
    simp only at h
    cases hq : groupsB s true with
    | none => rw [hq] at h; cases h
    | some g =>
      rw [hq] at h
      simp only at h
      split at h
      · have e := Option.some.inj h
        subst e
        exact ⟨by assumption, groupsB_lt _ _ _ hq⟩
      · cases h
  | some k =>
    rw [hg] at h
    simp only at h
    cases ha : groupsB (s.extract 0 k) false with
    | none => rw [ha] at h; cases h
    | some a =>
      cases hb : groupsB (s.extract (k + 2) s.size) true with
      | none => rw [ha, hb] at h; cases h
      | some b =>
        rw [ha, hb] at h
        change (if 7 < a.length + b.length then none else some (a ++ List.replicate (8 - a.length - b.length) 0 ++ b)) = some l at h
        split at h
        · cases h
        · have e := Option.some.inj h
          subst e
          refine ⟨by simp; omega, fun x hx => ?_⟩
          rcases List.mem_append.1 hx with hx | hx
          · rcases List.mem_append.1 hx with hx | hx
            · exact groupsB_lt _ _ _ ha x hx
            · have := List.eq_of_mem_replicate hx
              omega
          · exact groupsB_lt _ _ _ hb x hx
/-- What Parse answers, written out. -/
theorem parse_form (s : ByteArray) : ∃ (x0 x1 x2 x3 x4 x5 x6 x7 : Nat) (b : Bool), parseRet (parseB s) = .tuple #[.agg #[.int .u16 (x0 : Int), .int .u16 (x1 : Int), .int .u16 (x2 : Int), .int .u16 (x3 : Int), .int .u16 (x4 : Int), .int .u16 (x5 : Int), .int .u16 (x6 : Int), .int .u16 (x7 : Int)], .bool b] := by
  cases h : parseB s with
  | none => exact ⟨0, 0, 0, 0, 0, 0, 0, 0, false, rfl⟩
  | some l =>
    obtain ⟨x0, x1, x2, x3, x4, x5, x6, x7, rfl⟩ := list8 l (parseB_len s l h).1
    exact ⟨x0, x1, x2, x3, x4, x5, x6, x7, true, rfl⟩
theorem printB_small (gs : List Nat) (h8 : gs.length = 8) (hlt : ∀ x ∈ gs, x < 65536) : (printB gs).size ≤ 1000 := by
  unfold printB
  split
  · obtain ⟨x0, x1, x2, x3, x4, x5, x6, x7, rfl⟩ := list8 gs h8
    have l6 : x6 < 65536 := hlt x6 (by simp)
    have l7 : x7 < 65536 := hlt x7 (by simp)
    have := text4_size (x6 / 256) (x6 % 256) (x7 / 256) (x7 % 256) (by omega) (by omega) (by omega) (by omega)
    rw [ByteArray.size_append, ofL_size]
    show 7 + (text4 (x6 / 256) (x6 % 256) (x7 / 256) (x7 % 256)).size ≤ 1000
    omega
  · split
    · have := rowS_small gs hlt
      omega
    · have h1 := rowS_small (gs.take (runB gs).1) (fun x hx => hlt x (List.mem_of_mem_take hx))
      have h2 := rowS_small (gs.drop ((runB gs).1 + (runB gs).2)) (fun x hx => hlt x (List.mem_of_mem_drop hx))
      have h3 : (gs.take (runB gs).1).length ≤ 8 := by simp; omega
      have h4 : (gs.drop ((runB gs).1 + (runB gs).2)).length ≤ 8 := by simp; omega
      rw [ByteArray.size_append, ByteArray.size_append, ofL_size]
      show _ + 2 + _ ≤ 1000
      omega
theorem hexG_dots (a b c d : Nat) (ha : a < 256) : hexG (text4 a b c d) = none := by
  unfold hexG
  split
  · rfl
  · have hl : (dec a).length < (dec a ++ 46 :: (dec b ++ 46 :: (dec c ++ 46 :: dec d))).length := by simp
    unfold text4
    apply num_bad0 _ 16 (dec a).length
    · rw [ofL_size]; exact hl
    · rw [byteOf_ofL, List.getD_eq_getElem?_getD, List.getElem?_append_right (Nat.le_refl _)]
      simp
      decide
theorem text4_mem (a b c d : Nat) : ∀ x ∈ dec a ++ 46 :: (dec b ++ 46 :: (dec c ++ 46 :: dec d)), x.toNat ≠ 58 := by
  intro x hx
  have hd : ∀ u, ∀ x ∈ dec u, x.toNat ≠ 58 := fun u x hx => by have := dec_mem u x hx; omega
  simp only [List.mem_append, List.mem_cons] at hx
  rcases hx with h | h | h | h | h | h | h
  · exact hd a x h
  · rw [h]; decide
  · exact hd b x h
  · rw [h]; decide
  · exact hd c x h
  · rw [h]; decide
  · exact hd d x h
theorem zer_at (gs : List Nat) : ∀ k, zer gs k = true → ∀ j, j < k → gs.getD j 0 = 0
  | 0, _, j, h => by omega
  | k + 1, h, j, hj => by
    rw [zer, Bool.and_eq_true, decide_eq_true_eq] at h
    by_cases e : j = k
    · rw [e]; exact h.2
    · exact zer_at gs k h.1 j (by omega)
/-- What is printed is read as it was. -/
theorem parse_print (gs : List Nat) (h8 : gs.length = 8) (hlt : ∀ x ∈ gs, x < 65536) : parseB (printB gs) = some gs := by
  unfold printB
  by_cases hm : mappedB gs = true
  · rw [if_pos hm]
    unfold mappedB at hm
    rw [Bool.and_eq_true, decide_eq_true_eq] at hm
    obtain ⟨x0, x1, x2, x3, x4, x5, x6, x7, rfl⟩ := list8 gs h8
    have z0 := zer_at _ 5 hm.1 0 (by decide)
    have z1 := zer_at _ 5 hm.1 1 (by decide)
    have z2 := zer_at _ 5 hm.1 2 (by decide)
    have z3 := zer_at _ 5 hm.1 3 (by decide)
    have z4 := zer_at _ 5 hm.1 4 (by decide)
    have z5 := hm.2
    simp at z0 z1 z2 z3 z4 z5
    subst z0 z1 z2 z3 z4 z5
    have l6 : x6 < 65536 := hlt x6 (by simp)
    have l7 : x7 < 65536 := hlt x7 (by simp)
    show parseB (ofL [58, 58, 102, 102, 102, 102, 58] ++ text4 (x6 / 256) (x6 % 256) (x7 / 256) (x7 % 256)) = _
    have e : ofL [58, 58, 102, 102, 102, 102, 58] ++ text4 (x6 / 256) (x6 % 256) (x7 / 256) (x7 % 256) = ofL ([] ++ 58 :: 58 :: ([102, 102, 102, 102] ++ 58 :: (dec (x6 / 256) ++ 46 :: (dec (x6 % 256) ++ 46 :: (dec (x7 / 256) ++ 46 :: dec (x7 % 256)))))) := eq_ofL (by
      rw [data_append, ofL_data, text4_data]; rfl)
    rw [e, parse_merge [] _ trivial (.inl rfl)]
    have g1 : groupsB (ofL []) false = some [] := rfl
    have g2 : groupsB (ofL ([102, 102, 102, 102] ++ 58 :: (dec (x6 / 256) ++ 46 :: (dec (x6 % 256) ++ 46 :: (dec (x7 / 256) ++ 46 :: dec (x7 % 256)))))) true = some [65535, x6, x7] := by
      unfold groupsB
      have hp : pieces (ofL ([102, 102, 102, 102] ++ 58 :: (dec (x6 / 256) ++ 46 :: (dec (x6 % 256) ++ 46 :: (dec (x7 / 256) ++ 46 :: dec (x7 % 256)))))) 58 = [ofL [102, 102, 102, 102], text4 (x6 / 256) (x6 % 256) (x7 / 256) (x7 % 256)] := by
        rw [pieces_ofL, cutL_first 58 58 rfl _ _ (by decide), cutL_none 58 _ (text4_mem _ _ _ _)]
        rfl
      rw [if_neg (by rw [ofL_size]; simp), hp]
      have k1 : grTo [ofL [102, 102, 102, 102], text4 (x6 / 256) (x6 % 256) (x7 / 256) (x7 % 256)] true 1 = some [65535] := grTo_hex (k := 0) (out := []) rfl (by
        show hexG (ofL [102, 102, 102, 102]) = some 65535
        unfold hexG
        rw [numB_ofL _ _ (by simp)]
        decide)
      have k2 := grTo_strict (v := num4 (x6 / 256) (x6 % 256) (x7 / 256) (x7 % 256)) k1 (hexG_dots _ _ _ _ (by omega)) (text4_strict _ _ _ _ _ (by omega) (by omega) (by omega) (by omega) rfl)
      show grTo _ true (1 + 1) = _
      rw [k2, if_pos ⟨rfl, by simp⟩]
      have v1 : num4 (x6 / 256) (x6 % 256) (x7 / 256) (x7 % 256) / 65536 = x6 := by unfold num4; omega
      have v2 : num4 (x6 / 256) (x6 % 256) (x7 / 256) (x7 % 256) % 65536 = x7 := by unfold num4; omega
      rw [v1, v2]
      rfl
    rw [g1, g2]
    rfl
  · rw [if_neg hm]
    by_cases h0 : (runB gs).2 = 0
    · rw [if_pos h0, rowS_ofL, parse_plain _ (rowL_gap gs hlt), groupsB_row gs true hlt]
      simp only [if_pos h8]
    · rw [if_neg h0]
      have hr := runTo_zrun gs 8
      have hle := runTo_le gs 8 (Nat.le_refl _)
      change (runB gs).2 = 0 ∨ (2 ≤ (runB gs).2 ∧ (runB gs).2 = zrun gs (runB gs).1) at hr
      change (runB gs).1 + (runB gs).2 ≤ 8 at hle
      generalize (runB gs).1 = A at *
      generalize (runB gs).2 = M at *
      rcases hr with hr | ⟨h2, hz⟩
      · exact absurd hr h0
      · have lt1 : ∀ x ∈ gs.take A, x < 65536 := fun x hx => hlt x (List.mem_of_mem_take hx)
        have lt2 : ∀ x ∈ gs.drop (A + M), x < 65536 := fun x hx => hlt x (List.mem_of_mem_drop hx)
        have e : rowS (gs.take A) ++ ofL [58, 58] ++ rowS (gs.drop (A + M)) = ofL (rowL (gs.take A) ++ 58 :: 58 :: rowL (gs.drop (A + M))) := eq_ofL (by
          rw [data_append, data_append, rowS_list, rowS_list, ofL_data]; simp)
        have hl : rowL (gs.take A) = [] ∨ ((rowL (gs.take A)).getD ((rowL (gs.take A)).length - 1) 0).toNat ≠ 58 := by
          by_cases hA : gs.take A = []
          · rw [hA]; exact .inl rfl
          · exact .inr (rowL_last _ lt1 hA)
        rw [e, parse_merge _ _ (rowL_gap _ lt1) hl, groupsB_row _ _ lt1, groupsB_row _ _ lt2]
        have n1 : (gs.take A).length = A := by simp; omega
        have n2 : (gs.drop (A + M)).length = 8 - (A + M) := by simp; omega
        show (if 7 < (gs.take A).length + (gs.drop (A + M)).length then none else _) = _
        rw [n1, n2, if_neg (by omega), show 8 - A - (8 - (A + M)) = A + M - A by omega, run_split gs A (A + M) h8 (by omega) hle (zrun_zeros gs M A hz.symm hle)]
end Go.Proofs.YtgbajagacmfcmaaDoor
/- Contracts of the reference's Parse, Print of layer 4. -/
namespace Go.Proofs.YtgbajagacmfcmaaDoor
open Go.RowKit
set_option linter.unusedVariables false
set_option maxRecDepth 20000

/-- The address of a text. -/
def parseA (s : ByteArray) : Option (Int × List Nat) := match strictB s with
  | some n => some (4, b4 n)
  | none => (parseB s).map fun gs => (6, byL gs)
def addrRet : Option (Int × List Nat) → Value
  | some (f, bs) => .tuple #[addrV f bs, .bool true]
  | none => .tuple #[addrV 0 (List.replicate 16 0), .bool false]
/-- What is printed of an address. -/
def printA (f : Int) (bs : List Nat) : ByteArray := if f = 4 then text4 (bs.getD 0 0) (bs.getD 1 0) (bs.getD 2 0) (bs.getD 3 0) else if f = 6 then printB (grL bs 8) else ⟨#[]⟩
theorem fourB_num (bs : List Nat) : fourB bs = num4 (bs.getD 0 0) (bs.getD 1 0) (bs.getD 2 0) (bs.getD 3 0) := by
  simp [fourB, fourTo, num4]
end Go.Proofs.YtgbajagacmfcmaaDoor
/- What is read of a prefix's text: definitions and plain facts. -/
namespace Go.Proofs.YtgbajagacmfcmaaDoor
open Go.RowKit
set_option linter.unusedVariables false
set_option maxRecDepth 20000

/-- A number without a nought ahead of other digits. -/
def numP (d : ByteArray) : Option Nat := if 1 < d.size ∧ byteOf d 0 = 48 then none else numB d 10
theorem parseA_ok (s : ByteArray) (f : Int) (bs : List Nat) (h : parseA s = some (f, bs)) : bs.length = 16 ∧ ∀ x ∈ bs, x < 256 := by
  unfold parseA at h
  split at h
  · injection h with h
    injection h with h1 h2
    rw [← h2]
    exact ⟨b4_len _, b4_lt _⟩
  · cases hp : parseB s with
    | none => rw [hp] at h; cases h
    | some gs =>
      rw [hp] at h
      injection h with h
      injection h with h1 h2
      obtain ⟨hl, hlt⟩ := parseB_len s gs hp
      rw [← h2]
      exact ⟨by rw [byL_len, hl], byL_lt gs hlt⟩
theorem numP_le (d : ByteArray) (n : Nat) (h : numP d = some n) : n ≤ 1099511627776 := by
  unfold numP numB at h
  split at h
  · cases h
  · split at h
    · cases h
    · exact numTo_le _ _ _ _ h
/-- What is read of two pieces. -/
def pairP (o : Option (Int × List Nat)) (q : Option Nat) : Int × List Nat × Int × Int := match o, q with
  | some (f, bs), some n => if mayP f bs (n : Int) = true then (f, bs, (n : Int), 0) else (0, List.replicate 16 0, 0, 1)
  | _, _ => (0, List.replicate 16 0, 0, 2)
/-- What is read of a text. -/
def parseP (s : ByteArray) : Int × List Nat × Int × Int :=
  if Lib.lastIndexByte s 47 < 0 then (0, List.replicate 16 0, 0, 2)
  else pairP (parseA (s.extract 0 (Lib.lastIndexByte s 47).toNat)) (numP (s.extract ((Lib.lastIndexByte s 47).toNat + 1) s.size))
def prefRet (r : Int × List Nat × Int × Int) : Value := .tuple #[prefV r.1 r.2.1 r.2.2.1, .int .i64 r.2.2.2]
theorem last_range (s : ByteArray) : Lib.lastIndexByte s 47 < 0 ∨ ∃ E : Nat, Lib.lastIndexByte s 47 = (E : Int) ∧ E < s.size := by
  rcases Lib.lastIndexByte_spec s 47 with ⟨h, _⟩ | ⟨i, hi, h, _, _⟩
  · exact .inl (by omega)
  · exact .inr ⟨i, h, by omega⟩
end Go.Proofs.YtgbajagacmfcmaaDoor
/- Contract of the reference's Parse of layer 5. -/
namespace Go.Proofs.YtgbajagacmfcmaaDoor
open Go.RowKit
set_option linter.unusedVariables false
set_option maxRecDepth 20000

theorem get_bang (s : ByteArray) (k : Nat) (h : k < s.size) : s.data[k]! = s[k] := by
  rw [getElem!_pos s.data k (by simpa using h)]
  rfl
end Go.Proofs.YtgbajagacmfcmaaDoor
/- The texts of the table that is told first, and what is read of each. -/
namespace Go.Proofs.YtgbajagacmfcmaaDoor
open Go.RowKit
set_option linter.unusedVariables false
set_option maxRecDepth 20000

def text7_0 : ByteArray := ⟨#[49, 50, 55, 46, 48, 46, 48, 46, 48, 47, 56]⟩
theorem read7_0 : parseP text7_0 = (4, [127, 0, 0, 0, 0, 0, 0, 0, 0, 0, 0, 0, 0, 0, 0, 0], 8, 0) := by kernel_rfl
def text7_1 : ByteArray := ⟨#[58, 58, 49, 47, 49, 50, 56]⟩
theorem read7_1 : parseP text7_1 = (6, [0, 0, 0, 0, 0, 0, 0, 0, 0, 0, 0, 0, 0, 0, 0, 1], 128, 0) := by kernel_rfl
def text7_2 : ByteArray := ⟨#[48, 46, 48, 46, 48, 46, 48, 47, 51, 50]⟩
theorem read7_2 : parseP text7_2 = (4, [0, 0, 0, 0, 0, 0, 0, 0, 0, 0, 0, 0, 0, 0, 0, 0], 32, 0) := by kernel_rfl
def text7_3 : ByteArray := ⟨#[58, 58, 47, 49, 50, 56]⟩
theorem read7_3 : parseP text7_3 = (6, [0, 0, 0, 0, 0, 0, 0, 0, 0, 0, 0, 0, 0, 0, 0, 0], 128, 0) := by kernel_rfl
def text7_4 : ByteArray := ⟨#[49, 48, 46, 48, 46, 48, 46, 48, 47, 56]⟩
theorem read7_4 : parseP text7_4 = (4, [10, 0, 0, 0, 0, 0, 0, 0, 0, 0, 0, 0, 0, 0, 0, 0], 8, 0) := by kernel_rfl
def text7_5 : ByteArray := ⟨#[49, 48, 48, 46, 54, 52, 46, 48, 46, 48, 47, 49, 48]⟩
theorem read7_5 : parseP text7_5 = (4, [100, 64, 0, 0, 0, 0, 0, 0, 0, 0, 0, 0, 0, 0, 0, 0], 10, 0) := by kernel_rfl
def text7_6 : ByteArray := ⟨#[49, 54, 57, 46, 50, 53, 52, 46, 48, 46, 48, 47, 49, 54]⟩
theorem read7_6 : parseP text7_6 = (4, [169, 254, 0, 0, 0, 0, 0, 0, 0, 0, 0, 0, 0, 0, 0, 0], 16, 0) := by kernel_rfl
def text7_7 : ByteArray := ⟨#[49, 55, 50, 46, 49, 54, 46, 48, 46, 48, 47, 49, 50]⟩
theorem read7_7 : parseP text7_7 = (4, [172, 16, 0, 0, 0, 0, 0, 0, 0, 0, 0, 0, 0, 0, 0, 0], 12, 0) := by kernel_rfl
def text7_8 : ByteArray := ⟨#[49, 57, 50, 46, 49, 54, 56, 46, 48, 46, 48, 47, 49, 54]⟩
theorem read7_8 : parseP text7_8 = (4, [192, 168, 0, 0, 0, 0, 0, 0, 0, 0, 0, 0, 0, 0, 0, 0], 16, 0) := by kernel_rfl
def text7_9 : ByteArray := ⟨#[102, 99, 48, 48, 58, 58, 47, 55]⟩
theorem read7_9 : parseP text7_9 = (6, [252, 0, 0, 0, 0, 0, 0, 0, 0, 0, 0, 0, 0, 0, 0, 0], 7, 0) := by kernel_rfl
def text7_10 : ByteArray := ⟨#[102, 101, 56, 48, 58, 58, 47, 49, 48]⟩
theorem read7_10 : parseP text7_10 = (6, [254, 128, 0, 0, 0, 0, 0, 0, 0, 0, 0, 0, 0, 0, 0, 0], 10, 0) := by kernel_rfl
end Go.Proofs.YtgbajagacmfcmaaDoor

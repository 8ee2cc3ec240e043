/- TableFams: a prefix of no bits has all addresses of its family, and none of the other one: for any address (made one that may be) and any two values. No conditions. -/
import Derived.Test.YtjpjobbmljlacaaB7
import Derived.Test.YtjpjobbmljlacaaRows
import Derived.ProofKit
import Derived.OpenShut
import Derived.ShutString
import Derived.ChangeOld
import Derived.Below
namespace Go.Proofs.Ytjpjobbmljlacaa.tableFams
open Go.ChangeShapes Go.WideShapes Go.ChangeAt Go.RowKit
open Go.ChangeMaps (open_string shut_string)
set_option linter.unusedVariables false
set_option maxRecDepth 20000

theorem own : ownKnob Try.prog.godebug = none := by kernel_rfl

abbrev z16 : List Nat := List.replicate 16 0
theorem new_fam (x : Int) : newE [⟨4, z16, 0, x⟩] 1 = [⟨4, z16, 0, x⟩] := rfl
theorem set_fam (x y : Int) : setE [⟨4, z16, 0, x⟩] 6 z16 0 y = [⟨4, z16, 0, x⟩, ⟨6, z16, 0, y⟩] := rfl
theorem find_fam (gf : Int) (gb : List Nat) (h : gf = 4 ∨ gf = 6) (x : Int) : findE [⟨4, z16, 0, x⟩] gf gb = if gf = 4 then some ⟨4, z16, 0, x⟩ else none := by
  rcases h with rfl | rfl <;> rfl
theorem find_fam2 (gf : Int) (gb : List Nat) (h : gf = 4 ∨ gf = 6) (x y : Int) : findE [⟨4, z16, 0, x⟩, ⟨6, z16, 0, y⟩] gf gb = if gf = 4 then some ⟨4, z16, 0, x⟩ else some ⟨6, z16, 0, y⟩ := by
  rcases h with rfl | rfl <;> rfl
theorem mask_fam (f : Int) (w : World) : Calls Try.prog 22 #[addrV f z16, .int .i64 0] w fun e w' => e = .returned (prefV f z16 0) ∧ Below w.heap.size w w' := by
  have := refMask_any f z16 0 w rfl (by decide) (by decide)
  have hm : maskN f 0 = 0 := by unfold maskN; simp
  rw [hm, withL_zero] at this
  exact this
set_option maxRecDepth 100000 in
set_option maxHeartbeats 2000000 in
theorem walk (f : Int) (z : List Nat) (x y : Int) (fw : (Lit.int .i64 f).wf = true) (l0 : z.length = 16) (w0 : ∀ x ∈ z, x < 256) (hx : (Lit.int .i64 x).wf = true) (hy : (Lit.int .i64 y).wf = true) (w : World) :
    Calls Try.prog 8 #[addrV f z, .int .i64 x, .int .i64 y] w fun e w' => e = .returned (.bool true) ∧ Below w.heap.size w w' := by
  have HLV := fun W => Lib.hid (lives_any W)
  have HGD := fun W => Lib.hid (refGood_any f z W l0 w0)
  have hga := good_is f z l0 w0
  have hgf : goodF f = 4 ∨ goodF f = 6 := by unfold goodF; split <;> simp
  have M4 := fun W => Lib.hid (mask_fam 4 W)
  have M6 := fun W => Lib.hid (mask_fam 6 W)
  have Z16 : Hid (z16.length = 16) := Lib.hid rfl
  obtain ⟨cs, ecs, HA, HB⟩ := addr_boxed f z w l0
  generalize goodF f = gf at *
  generalize goodB f z = gb at *
  have HGA := Lib.hid hga
  have G16 := Lib.hid hga.len
  have HGF := Lib.hid hgf
  have HX := Lib.hid hx
  have HY := Lib.hid hy
  have HNW : ∀ W g, Hid (W.rangeAt g 0 (entL 4 z16 0 x) → g < W.heap.size → Calls Try.prog 9 #[.slice (some ⟨g, 0, none⟩) 1 1] W fun e w' => ∃ G F, e = .returned (.pointer (some ⟨G, 0, none⟩)) ∧ TabAt w' G [⟨4, z16, 0, x⟩] 0 F ∧ (∀ k ∈ F, W.heap.size ≤ k) ∧ Below W.heap.size W w') := fun W g => Lib.hid (fun h1 h2 => by
    have := new_some g 1 [⟨4, z16, 0, x⟩] W (by show W.rangeAt g 0 (entL 4 z16 0 x ++ []); rw [List.append_nil]; exact h1) h2 (fun r hr => by rw [List.mem_singleton.1 hr]; exact ⟨rfl, by show ∀ y ∈ z16, y < 256; decide, by show (Lit.int .i64 0).wf = true; decide, HX.out⟩) (by show 1 ≤ 900; decide)
    rw [show [(⟨4, z16, 0, x⟩ : Raw)].length = 1 from rfl, new_fam] at this
    exact this)
  have HF1 : ∀ W G F, Hid (TabAt W G [⟨4, z16, 0, x⟩] 0 F → Calls Try.prog 14 #[.pointer (some ⟨G, 0, none⟩), addrV gf gb] W (Found G [⟨4, z16, 0, x⟩] 0 F (if gf = 4 then some ⟨4, z16, 0, x⟩ else none) W)) := fun W G F => Lib.hid (fun h => by
    have := find_any G _ 0 F gf gb W h HGA.out.len HGA.out.lt (by decide) (by decide)
    rw [find_fam gf gb HGF.out] at this
    exact this)
  have HSE : ∀ W G F st, Hid (TabAt W G [⟨4, z16, 0, x⟩] st F → Calls Try.prog 23 #[.pointer (some ⟨G, 0, none⟩), prefV 6 z16 0, .int .i64 y] W fun e w' => e = .returned (.int .i64 0) ∧ ∃ F', TabAt w' G [⟨4, z16, 0, x⟩, ⟨6, z16, 0, y⟩] st F' ∧ Foot F F' W w') := fun W G F st => Lib.hid (fun h => by
    have := tabSet_any G _ st F 6 z16 0 y W h rfl (by decide) (by decide) HY.out (by simp)
    rw [if_pos (by decide), set_fam] at this
    exact this)
  have HF2 : ∀ W G F st, Hid (TabAt W G [⟨4, z16, 0, x⟩, ⟨6, z16, 0, y⟩] st F → 0 ≤ st → st ≤ 5000 → Calls Try.prog 14 #[.pointer (some ⟨G, 0, none⟩), addrV gf gb] W (Found G [⟨4, z16, 0, x⟩, ⟨6, z16, 0, y⟩] st F (if gf = 4 then some ⟨4, z16, 0, x⟩ else some ⟨6, z16, 0, y⟩) W)) := fun W G F st => Lib.hid (fun h h0 h1 => by
    have := find_any G _ st F gf gb W h HGA.out.len HGA.out.lt h0 (by omega)
    rw [find_fam2 gf gb HGF.out] at this
    exact this)
  have HLE : ∀ W G F st, Hid (TabAt W G [⟨4, z16, 0, x⟩, ⟨6, z16, 0, y⟩] st F → Calls Try.prog 24 #[.pointer (some ⟨G, 0, none⟩)] W fun e w' => e = .returned (.int .i64 2) ∧ w' = W) := fun W G F st => Lib.hid (fun h => by
    obtain ⟨v, rfl, hT, hR, _⟩ := h
    exact tabLen_any G v st _ W hT hR)
  rw [ecs]
  clear ecs fw l0 w0 hga hgf hx hy
  go_enter Try.func8, Try.ntmps8
  go_upto_region 1 with fail
  generalize (w.alloc (.cells cs 30)) = W at *
  go_wp2_with (refine load_addr_g HA _ rfl rfl rfl ?_)
  refine (HGD _).out.mono ?_
  rintro e V1 ⟨rfl, hb1⟩
  have HA1 := Lib.hid (HA.out.below hb1)
  have HB1 := Lib.hid (chain HB.out hb1)
  clear hb1 HGD HA HB
  go_wp2_with (first | (refine store_addr HA1 _ _ G16 rfl rfl rfl rfl (fun V2 HV2 HA2 => ?_); have HB2 : Hid (Below w.heap.size w V2) := Lib.hid (by rw [HV2.out]; exact below_cells (Nat.le_refl _) _ _ _ HB1.out)) | refine build_fam rfl _ rfl rfl ?_)
  refine (M4 _).out.mono ?_
  rintro e V3 ⟨rfl, hb3⟩
  have HA3 := Lib.hid (HA2.out.below hb3)
  have HB3 := Lib.hid (chain HB2.out hb3)
  clear hb3 M4 HA1 HA2 HB1 HB2 HV2
  go_wp2_with (first | refine build_entT Z16 rfl _ _ rfl rfl rfl ?_ | refine build_entST Z16 rfl _ rfl rfl (fun V4 HV4 => ?_))
  refine ((HNW V4 V3.heap.size).out (by rw [HV4.out]; exact buildS_new _) (by rw [HV4.out]; simp)).mono ?_
  rintro e V5 ⟨G, F, rfl, hT5, hF5, hb5⟩
  have hb4 : Below V3.heap.size V3 V4 := by rw [HV4.out]; exact (Below.refl _ _).alloc (Nat.le_refl _) _
  have HB5 := Lib.hid (chain (chain HB3.out hb4) hb5)
  have HA5 := Lib.hid ((HA3.out.below hb4).below hb5)
  have HT5 := Lib.hid hT5
  have HF5 : Hid (∀ k ∈ F, w.heap.size < k) := Lib.hid (fun k hk => by have h1 := hF5 k hk; have h2 := hb4.size; have h3 := HA3.out.lt; omega)
  have HG5 : Hid (w.heap.size < G) := Lib.hid (HF5.out G hT5.lt.1)
  clear hT5 hF5 hb5 hb4 HV4 HB3 HA3 HNW
  go_wp2_with (refine load_addr_g HA5 _ rfl rfl rfl ?_)
  rcases HGF.out with rfl | rfl
  · rw [if_pos rfl] at HF1 HF2
    refine ((HF1 _ _ _).out HT5.out).mono ?_
    rintro e V6 ⟨rfl, ⟨st6, hT6, hs0, hs1⟩, hf6⟩
    rw [show entRet (some ⟨4, z16, 0, x⟩) = .tuple #[entV 4 z16 0 x, .bool true] from rfl]
    have HB6 := Lib.hid (HB5.out.trans (hf6.below (B := w.heap.size) (by have := HG5.out; simp; omega) HB5.out.size))
    have HA6 := Lib.hid (HA5.out.foot hf6 (by have := HG5.out; simp; omega))
    have HT6 := Lib.hid hT6
    have HZ6 := Lib.hid (entT_zeroed V6)
    have HST : Hid (0 ≤ st6 ∧ st6 ≤ 2000) := Lib.hid (by have := bl_small (show 1 ≤ 1000 by decide); rw [show ([(⟨4, z16, 0, x⟩ : Ent)]).length = 1 from rfl] at hs1; omega)
    clear hT6 hs0 hs1 hf6 HB5 HA5 HT5 HF1
    have hxx : (x != x) = false := by simp
    have hyy : (y != y) = false := by simp
    go_upto_region 6 with (refine store_entT HZ6 _ _ Z16 rfl rfl rfl rfl (fun V7 HV7 HE7 => ?_))
    have hb7 := below_newT HV7
    have HB7 := Lib.hid (chain HB6.out hb7)
    have HA7 := Lib.hid (HA6.out.below hb7)
    have HT7 := Lib.hid (HT6.out.below hb7)
    have HEG : Hid (∀ k ∈ F, k < V6.heap.size) := Lib.hid HT6.out.lt.2
    have HGE : Hid (G < V6.heap.size) := Lib.hid (HT6.out.lt.2 G HT6.out.lt.1)
    have hfam := HA7.out.fam
    have hv7 := HE7.out.val
    clear HZ6 HB6 HA6 HT6 HV7 hb7
    generalize V6.heap.size = EB at *
    go_wp2_with (refine build_fam rfl _ rfl rfl ?_)
    refine (M6 _).out.mono ?_
    rintro e V8 ⟨rfl, hb8⟩
    have HB8 := Lib.hid (chain HB7.out hb8)
    have HA8 := Lib.hid (HA7.out.below hb8)
    have HT8 := Lib.hid (HT7.out.below hb8)
    have HE8 := Lib.hid (HE7.out.below hb8)
    clear hb8 HB7 HA7 HT7 HE7 hfam hv7 M6
    go_wp2_with fail
    refine ((HSE _ _ _ _).out HT8.out).mono ?_
    rintro e V9 ⟨rfl, F9, hT9, hf9⟩
    have HB9 := Lib.hid (HB8.out.trans (hf9.below (B := w.heap.size) (fun k hk => by have := HF5.out k hk; omega) HB8.out.size))
    have HA9 := Lib.hid (HA8.out.foot hf9 (fun e => by have := HF5.out _ e; omega))
    have HE9 := Lib.hid (HE8.out.same hf9.size (hf9.keep _ HE8.out.lt (fun e => by have := HEG.out _ e; omega)))
    have HT9 := Lib.hid hT9
    have HN9 : Hid (EB ≠ G) := Lib.hid (fun e => by have := HGE.out; omega)
    have HEF : Hid (EB ∉ F9) := Lib.hid (fun e => by
      rcases hf9.new _ e with e | e
      · have := HEG.out _ e; omega
      · have := HE8.out.lt; omega)
    clear hT9 hf9 HB8 HA8 HE8 HT8 HSE
    go_wp2_with (refine load_addr_g HA9 _ rfl rfl rfl ?_)
    refine ((HF2 _ _ _ _).out HT9.out HST.out.1 (by have := HST.out.2; omega)).mono ?_
    rintro e V10 ⟨rfl, ⟨st10, hT10, _, _⟩, hf10⟩
    rw [show entRet (some ⟨4, z16, 0, x⟩) = .tuple #[entV 4 z16 0 x, .bool true] from rfl]
    have HB10 := Lib.hid (HB9.out.trans (hf10.below (B := w.heap.size) (by have := HG5.out; simp; omega) HB9.out.size))
    have HA10 := Lib.hid (HA9.out.foot hf10 (by have := HG5.out; simp; omega))
    have HE10 := Lib.hid (HE9.out.same hf10.size (hf10.keep _ HE9.out.lt (by have := HN9.out; simp; omega)))
    have HT10 := Lib.hid hT10
    have HEW : Hid (w.heap.size < EB) := Lib.hid (by have h1 := HGE.out; have h2 := HG5.out; omega)
    clear hT10 hf10 HB9 HA9 HE9 HT9 HF2
    go_upto_region 10 with (refine store_entT HE10 _ _ Z16 rfl rfl rfl rfl (fun V11 HV11 HE11 => ?_))
    have hf11 : Foot [EB] [EB] V10 V11 := by rw [HV11.out]; exact foot_cells _ _ _
    have HB11 := Lib.hid (HB10.out.trans (hf11.below (B := w.heap.size) (by have := HEW.out; simp; omega) HB10.out.size))
    have HA11 := Lib.hid (HA10.out.foot hf11 (by have := HEW.out; simp; omega))
    have HT11 := Lib.hid (HT10.out.keep hf11.size (fun k hk => hf11.keep k (HT10.out.lt.2 k hk) (fun e => HEF.out (by rw [← List.mem_singleton.1 e]; exact hk))))
    have hfam2 := HA11.out.fam
    have hv11 := HE11.out.val
    have HLL := Lib.hid ((HLE _ _ _ _).out HT11.out)
    clear hf11 HV11 HE10 HA10 HB10 HT10 HT11 HA11 HE11 HLE
    go_wp2_with fail
    refine HLL.out.mono ?_
    rintro e w' ⟨rfl, rfl⟩
    clear HLL
    go_wp2_with fail
    refine (HLV _).out.mono ?_
    rintro e V12 ⟨rfl, hb12⟩
    have HB12 := Lib.hid (chain HB11.out hb12)
    clear hb12 HLV HB11
    go_wp2_with fail
    go_ret
    exact ⟨rfl, HB12.out⟩
  · rw [if_neg (by decide)] at HF1 HF2
    refine ((HF1 _ _ _).out HT5.out).mono ?_
    rintro e V6 ⟨rfl, ⟨st6, hT6, hs0, hs1⟩, hf6⟩
    rw [show entRet none = .tuple #[entV 0 (List.replicate 16 0) 0 0, .bool false] from rfl]
    have HB6 := Lib.hid (HB5.out.trans (hf6.below (B := w.heap.size) (by have := HG5.out; simp; omega) HB5.out.size))
    have HA6 := Lib.hid (HA5.out.foot hf6 (by have := HG5.out; simp; omega))
    have HT6 := Lib.hid hT6
    have HZ6 := Lib.hid (entT_zeroed V6)
    have HST : Hid (0 ≤ st6 ∧ st6 ≤ 2000) := Lib.hid (by have := bl_small (show 1 ≤ 1000 by decide); rw [show ([(⟨4, z16, 0, x⟩ : Ent)]).length = 1 from rfl] at hs1; omega)
    clear hT6 hs0 hs1 hf6 HB5 HA5 HT5 HF1
    have hxx : (x != x) = false := by simp
    have hyy : (y != y) = false := by simp
    go_upto_region 6 with (refine store_entT HZ6 _ _ Z16 rfl rfl rfl rfl (fun V7 HV7 HE7 => ?_))
    have hb7 := below_newT HV7
    have HB7 := Lib.hid (chain HB6.out hb7)
    have HA7 := Lib.hid (HA6.out.below hb7)
    have HT7 := Lib.hid (HT6.out.below hb7)
    have HEG : Hid (∀ k ∈ F, k < V6.heap.size) := Lib.hid HT6.out.lt.2
    have HGE : Hid (G < V6.heap.size) := Lib.hid (HT6.out.lt.2 G HT6.out.lt.1)
    have hfam := HA7.out.fam
    have hv7 := HE7.out.val
    clear HZ6 HB6 HA6 HT6 HV7 hb7
    generalize V6.heap.size = EB at *
    go_wp2_with (refine build_fam rfl _ rfl rfl ?_)
    refine (M6 _).out.mono ?_
    rintro e V8 ⟨rfl, hb8⟩
    have HB8 := Lib.hid (chain HB7.out hb8)
    have HA8 := Lib.hid (HA7.out.below hb8)
    have HT8 := Lib.hid (HT7.out.below hb8)
    have HE8 := Lib.hid (HE7.out.below hb8)
    clear hb8 HB7 HA7 HT7 HE7 hfam hv7 M6
    go_wp2_with fail
    refine ((HSE _ _ _ _).out HT8.out).mono ?_
    rintro e V9 ⟨rfl, F9, hT9, hf9⟩
    have HB9 := Lib.hid (HB8.out.trans (hf9.below (B := w.heap.size) (fun k hk => by have := HF5.out k hk; omega) HB8.out.size))
    have HA9 := Lib.hid (HA8.out.foot hf9 (fun e => by have := HF5.out _ e; omega))
    have HE9 := Lib.hid (HE8.out.same hf9.size (hf9.keep _ HE8.out.lt (fun e => by have := HEG.out _ e; omega)))
    have HT9 := Lib.hid hT9
    have HN9 : Hid (EB ≠ G) := Lib.hid (fun e => by have := HGE.out; omega)
    have HEF : Hid (EB ∉ F9) := Lib.hid (fun e => by
      rcases hf9.new _ e with e | e
      · have := HEG.out _ e; omega
      · have := HE8.out.lt; omega)
    clear hT9 hf9 HB8 HA8 HE8 HT8 HSE
    go_wp2_with (refine load_addr_g HA9 _ rfl rfl rfl ?_)
    refine ((HF2 _ _ _ _).out HT9.out HST.out.1 (by have := HST.out.2; omega)).mono ?_
    rintro e V10 ⟨rfl, ⟨st10, hT10, _, _⟩, hf10⟩
    rw [show entRet (some ⟨6, z16, 0, y⟩) = .tuple #[entV 6 z16 0 y, .bool true] from rfl]
    have HB10 := Lib.hid (HB9.out.trans (hf10.below (B := w.heap.size) (by have := HG5.out; simp; omega) HB9.out.size))
    have HA10 := Lib.hid (HA9.out.foot hf10 (by have := HG5.out; simp; omega))
    have HE10 := Lib.hid (HE9.out.same hf10.size (hf10.keep _ HE9.out.lt (by have := HN9.out; simp; omega)))
    have HT10 := Lib.hid hT10
    have HEW : Hid (w.heap.size < EB) := Lib.hid (by have h1 := HGE.out; have h2 := HG5.out; omega)
    clear hT10 hf10 HB9 HA9 HE9 HT9 HF2
    go_upto_region 10 with (refine store_entT HE10 _ _ Z16 rfl rfl rfl rfl (fun V11 HV11 HE11 => ?_))
    have hf11 : Foot [EB] [EB] V10 V11 := by rw [HV11.out]; exact foot_cells _ _ _
    have HB11 := Lib.hid (HB10.out.trans (hf11.below (B := w.heap.size) (by have := HEW.out; simp; omega) HB10.out.size))
    have HA11 := Lib.hid (HA10.out.foot hf11 (by have := HEW.out; simp; omega))
    have HT11 := Lib.hid (HT10.out.keep hf11.size (fun k hk => hf11.keep k (HT10.out.lt.2 k hk) (fun e => HEF.out (by rw [← List.mem_singleton.1 e]; exact hk))))
    have hfam2 := HA11.out.fam
    have hv11 := HE11.out.val
    have HLL := Lib.hid ((HLE _ _ _ _).out HT11.out)
    clear hf11 HV11 HE10 HA10 HB10 HT10 HT11 HA11 HE11 HLE
    go_wp2_with fail
    refine HLL.out.mono ?_
    rintro e w' ⟨rfl, rfl⟩
    clear HLL
    go_wp2_with fail
    refine (HLV _).out.mono ?_
    rintro e V12 ⟨rfl, hb12⟩
    have HB12 := Lib.hid (chain HB11.out hb12)
    clear hb12 HLV HB11
    go_wp2_with fail
    go_ret
    exact ⟨rfl, HB12.out⟩

set_option maxRecDepth 100000 in
theorem lifted (os : Os) (started : os.Started) (H : Type) (enc : TypeId × Value → H) :
    ReturnsInHanded {} Try.checked os 8 .any (Rows.tableFamsSpec.pre6 enc Try.prog Try.f8 Rows.tableFamsRow.domain false) (Rows.tableFamsSpec.post enc Try.prog Try.f8 false true false false) := by
  refine returnsInHanded_of_change (C := Try.checked) own started (by kernel_rfl) Try.func8
    (ChangeSpec.witness6 (enc := enc) (C := Try.checked) false ⟨#[], #[.agg #[.int .i64 0, .int .u8 0, .int .u8 0, .int .u8 0, .int .u8 0, .int .u8 0, .int .u8 0, .int .u8 0, .int .u8 0, .int .u8 0, .int .u8 0, .int .u8 0, .int .u8 0, .int .u8 0, .int .u8 0, .int .u8 0, .int .u8 0], .int .i64 0, .int .i64 0], []⟩ 8 (by kernel_rfl) (by kernel_rfl) (by kernel_rfl) (by kernel_rfl)) ?_
  intro W base args ds gs before hval0 hW hcnd _
  have hval : ∀ (j : Nat) t v, Try.f8.params[j]? = some t → args[j]? = some v → Value.okWide Try.prog W .any base t v := hval0
  have hW' := hW
  obtain ⟨p, q, hA0, hV, rfl, hfz, hnd⟩ := hW
  have hA : DataW.TrodAll enc Try.prog W 0 (fun _ => true) true Try.f8.params.toList args.toList ds p := hA0
  rw [Try.params8] at hA hval
  obtain ⟨v0, vs0, d0, ds0, p0, q0, hargs, rfl, rfl, h0, r0⟩ := trodAll_cons hA
  obtain ⟨v1, vs1, d1, ds1, p1, q1, rfl, rfl, rfl, h1, r1⟩ := trodAll_cons r0
  obtain ⟨v2, vs2, d2, ds2, p2, q2, rfl, rfl, rfl, h2, r2⟩ := trodAll_cons r1
  obtain ⟨rfl, rfl, rfl⟩ := trodAll_nil r2
  obtain rfl : args = #[v0, v1, v2] := by cases args; simp_all
  obtain ⟨rfl, rfl⟩ := trodVars_none hV
  have k0 := h0
  have lt0 : ∀ x ∈ p0, x.block < W.heap.size := by obtain ⟨m, hm⟩ := k0; exact DataW.trod_lt m _ _ _ hm
  obtain ⟨f0, z0, rfl, fw0, l0, w0⟩ := open_addr (hval 0 30 v0 rfl rfl) h0
  obtain ⟨a1, rfl, rfl, rfl, w1⟩ := open_int Try.underlying3 (hval 1 3 v1 rfl rfl) h1
  obtain ⟨a2, rfl, rfl, rfl, w2⟩ := open_int Try.underlying3 (hval 2 3 v2 rfl rfl) h2
  clear hA0 hval0
  refine (walk f0 z0 a1 a2 fw0 l0 w0 w1 w2 W).mono fun e W' ⟨he, bel⟩ => ?_
  subst he
  exact ⟨_, rfl, _, _, _, [], _, [], hW', trodAll_mk1 (shut_bool Try.underlying4 _), (trodAll_cons_mk (Below.trod laidOut (by kernel_rfl) (of_decide_eq_true (by kernel_rfl)) k0 bel lt0) (trodAll_cons_mk (shut_int Try.underlying3 w1) (trodAll_cons_mk (shut_int Try.underlying3 w2) trodAll_mk0))), rfl, bel.frame _, fun h => by cases h⟩

theorem over : Rows.tableFamsRow.holds Try.pinned (OpenSpec.ofChange Rows.tableFamsSpec) :=
  OpenClaim.holds_of_wide 8 Try.f8 rfl rfl rfl rfl rfl rfl rfl ⟨rfl, rfl, rfl, rfl, rfl⟩ rfl rfl rfl rfl rfl (by kernel_rfl) Try.func8 (by kernel_rfl)
    (of_decide_eq_true (by kernel_rfl)) (by unfold Func.isWrapper; first | (rw [if_pos (by decide +kernel)]; kernel_rfl) | (rw [if_neg (by decide +kernel)]; exact ⟨rfl, rfl⟩))
    (fun os started H enc _ => lifted os started H enc)


theorem proved : Rows.TableFamsSaid := over
#print axioms proved
end Go.Proofs.Ytjpjobbmljlacaa.tableFams

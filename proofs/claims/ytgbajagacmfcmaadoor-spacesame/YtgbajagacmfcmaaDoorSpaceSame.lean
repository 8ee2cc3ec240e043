/- For every row of entries and every number: by the map of the first 12 entries, the address of that number and the one mapped to it are of one space; true is answered, and what came in stays. -/
import Derived.Test.YtgbajagacmfcmaaDoorB10
import Derived.Test.YtgbajagacmfcmaaDoorTie
import Derived.Test.YtgbajagacmfcmaaDoorCards
import Derived.ProofKit
import Derived.OpenShut
import Derived.ShutString
import Derived.ChangeOld
import Derived.Below
namespace Go.Proofs.YtgbajagacmfcmaaDoor.spaceSame
open Go.ChangeShapes Go.WideShapes Go.ChangeAt Go.RowKit
open Go.ChangeMaps (open_string shut_string)
set_option linter.unusedVariables false
set_option maxRecDepth 20000

theorem own : ownKnob Tryd.prog.godebug = none := by kernel_rfl

set_option maxRecDepth 100000 in
set_option maxHeartbeats 2000000 in
theorem walk (a : Option Addr) (len cap : Nat) (D : List Raw) (z : Int) (w : World) (hD : RawsAt w a len cap D) (hz : (Lit.int .u32 z).wf = true) (ht : Tabs w) :
    Calls Tryd.prog 4 #[.slice a len cap, .int .u32 z] w fun e w' => e = .returned (.bool true) ∧ Below w.heap.size w w' := by
  obtain ⟨n, hn, rfl⟩ : ∃ n : Nat, n ≤ 4294967295 ∧ z = (n : Int) := by
    have := bounds_u32 hz
    exact ⟨z.toNat, by omega, by omega⟩
  have HNR := fun k hk hle => Lib.hid (mapNew_raws a len cap D w hD k hk hle)
  have HLV := fun W (h : Tabs W) => Lib.hid (lives7_any W h)
  have HO4 := fun W => Lib.hid (refOf4_any n W hn)
  have HMA := fun W => Lib.hid (refMap_any 4 (b4 n) W (b4_len _) (b4_lt _))
  have hml := map_len 4 (b4 n) (b4_len n) (b4_lt n)
  have HOF := fun W G es st F h h0 h1 hle => Lib.hid (mapOf_few G es st F 4 (b4 n) W h (b4_len n) (b4_lt n) h0 h1 hle)
  have HOM := fun W G es st F h h0 h1 hle => Lib.hid (mapOf_few G es st F (mapF 4) (mapB 4 (b4 n)) W h hml.1 hml.2 h0 h1 hle)
  have hback : unmapF (mapF 4) (mapB 4 (b4 n)) = 4 ∧ unmapB (mapF 4) (mapB 4 (b4 n)) = b4 n := by
    rw [mapB_four _ (b4_lt n), fourB_b4 n hn]
    exact unmap_mapL n hn
  rw [hback.1, hback.2] at HOM
  rw [(unmap_four (b4 n)).1, (unmap_four (b4 n)).2] at HOF
  have A16 := Lib.hid (b4_len n)
  have HTB := Lib.hid ht
  obtain ⟨hc1, hc2, hl, hok, hrow⟩ := hD
  have hm : maxLen ≤ 9223372036854775807 := by unfold maxLen; omega
  have HLE := fun k => newA_len D k
  clear hback hml hz hn ht hl hok
  generalize mapF 4 = mf at *
  generalize mapB 4 (b4 n) = mb at *
  generalize b4 n = ab at *
  by_cases h12 : 12 < len
  · have hd : decide ((12 : Int) < (len : Int)) = true := by simp; omega
    have hdn : decide (12 < len) = true := by simp; omega
    have HNW := HNR 12 (by omega) (by decide)
    have HLS : Hid ((newA D 12).length ≤ 1000) := Lib.hid (Nat.le_trans (HLE 12) (by decide))
    have hcp : 12 ≤ cap := by omega
    rcases hrow with h0 | ⟨g, o, rfl, hr, hg⟩
    · omega
    clear HNR HLE hr hg
    go_enter Tryd.func4, Tryd.ntmps4
    go_wp2_with fail
    refine HNW.out.mono ?_
    rintro e w1 ⟨G, F, rfl, hT, hF, hb⟩
    have HT1 := Lib.hid hT
    have HF := Lib.hid hF
    have HB1 := Lib.hid hb
    clear hT hF hb HNW
    generalize newA D 12 = es at *
    go_wp2_with fail
    refine (HO4 _).out.mono ?_
    rintro e w2 ⟨rfl, hb2⟩
    have HT2 := Lib.hid (HT1.out.below hb2)
    have HB2 := Lib.hid (chain HB1.out hb2)
    have HZ := Lib.hid (addr_zeroed w2)
    have HG2 : Hid (G < w2.heap.size) := Lib.hid (HT2.out.lt.2 G HT2.out.lt.1)
    clear hb2 HO4 HT1 HB1
    go_upto_region 7 with (refine store_addr HZ _ _ A16 rfl rfl rfl rfl (fun W3 HW3 HA3 => ?_))
    have HT3 := Lib.hid (HT2.out.below (below_newA HW3))
    have HB3 := Lib.hid (chain HB2.out (below_newA HW3))
    clear HT2 HB2 HZ HW3
    generalize w2.heap.size = BA at *
    have HGw : Hid (∀ B, w.heap.size ≤ B → ∀ k ∈ [G], w.heap.size ≤ k) := Lib.hid (fun B _ k hk => by rw [List.mem_singleton.1 hk]; exact HF.out G HT3.out.lt.1)
    obtain ⟨L, hL⟩ : ∃ L, [(BA, 0, addrL 4 ab)] = L := ⟨_, rfl⟩
    have HK : Hid (HeldL L W3.drew) := Lib.hid (by rw [← hL]; intro y hy; rw [List.mem_singleton.1 hy]; exact HA3.out.range)
    have MA : Hid (InL L BA 0 (addrL 4 ab)) := Lib.hid (fun W h => h.get (by rw [← hL]; simp))
    have HLT : Hid (∀ y ∈ L, y.1 < W3.heap.size ∧ y.1 ∉ [G]) := Lib.hid (by rw [← hL]; intro y hy; rw [List.mem_singleton.1 hy]; exact ⟨HA3.out.lt, by have := HG2.out; simp; omega⟩)
    have HTD := Lib.hid (HT3.out.below (Below.refl _ _).drew)
    have HBD : Hid (Below w.heap.size w W3.drew) := Lib.hid HB3.out.drew
    have HLD : Hid (∀ y ∈ L, y.1 < W3.drew.heap.size ∧ y.1 ∉ [G]) := HLT
    have HGF := Lib.hid (HF.out G HT3.out.lt.1)
    clear hL HA3 HT3 HB3 HLT HG2 HGw HF
    have HLN : Hid (∀ y ∈ L, y.1 ∉ [G]) := Lib.hid (fun y hy => (HLD.out y hy).2)
    refine wp_region_noPanic ?_
    refine wp_region_held_drew (S := HeldL L) (by kernel_rfl) HK.out (fun hHeld => ?_)
    generalize W3.drew = V at *
    refine wpAnyH_take (i := 0) (v := ?_) rfl (by kernel_rfl) (by kernel_rfl) (by kernel_rfl) (fun _ _ _ h => h) (Or.inl ⟨by rfl, ?_⟩) (by assumption) ?_
    rotate_left
    · (intro w hSw; go_simp; try (with_reducible rfl))
    try simp only [Act.put, List.getElem_toArray, List.getElem_cons_zero, List.setIfInBounds_toArray, List.set_cons_zero, List.set_cons_succ]
    refine wpAnyH_take (i := 1) rfl (by kernel_rfl) (by kernel_rfl) (by kernel_rfl) (fun _ _ _ h => h) (yields_addr_l A16 MA (by rfl) _ rfl rfl) (by assumption) ?_
    try simp only [Act.put, List.getElem_toArray, List.getElem_cons_zero, List.getElem_cons_succ, List.setIfInBounds_toArray, List.set_cons_zero, List.set_cons_succ]
    refine wpAnyH_take (i := 3) (v := ?_) rfl (by kernel_rfl) (by kernel_rfl) (by kernel_rfl) (fun _ _ _ h => h) (Or.inl ⟨by rfl, ?_⟩) (by assumption) ?_
    rotate_left
    · (intro w hSw; go_simp; try (with_reducible rfl))
    try simp only [Act.put, List.getElem_toArray, List.getElem_cons_zero, List.getElem_cons_succ, List.setIfInBounds_toArray, List.set_cons_zero, List.set_cons_succ]
    refine wpAnyH_take (i := 4) rfl (by kernel_rfl) (by kernel_rfl) (by kernel_rfl) (fun _ _ _ h => h) (yields_addr_l A16 MA (by rfl) _ rfl rfl) (by assumption) ?_
    try simp only [Act.put, List.getElem_toArray, List.getElem_cons_zero, List.getElem_cons_succ, List.setIfInBounds_toArray, List.set_cons_zero, List.set_cons_succ]
    refine wpAnyH_ready (rs := [2]) (by kernel_rfl) (by simp) ?_
    refine AllReadyH.cons rfl (fun K hK => ?_) AllReadyH.nil
    go_simp
    refine (HOF _ G es 0 F HTD.out (by decide) (by decide) HLS.out).out.mono ?_
    rintro e V1 ⟨rfl, ⟨st1, hT1, hs0, hs1⟩, hf1⟩
    have HT1 := Lib.hid hT1
    have HB1 := Lib.hid (HBD.out.trans (hf1.below (B := w.heap.size) (by have := HGF.out; simpa using this) HBD.out.size))
    have hS1 := HeldL.foot HK.out hf1 HLD.out
    have HL1 : Hid (∀ y ∈ L, y.1 < V1.heap.size) := Lib.hid (fun y hy => Nat.lt_of_lt_of_le (HLD.out y hy).1 hf1.size)
    clear hT1 hf1 HOF HTD HBD HLD
    go_wp2_with fail
    refine hK.out _ _ hS1 (fun hHeld1 => ?_)
    clear hK K
    try simp only [Act.put, List.getElem_toArray, List.getElem_cons_zero, List.getElem_cons_succ, List.setIfInBounds_toArray, List.set_cons_zero, List.set_cons_succ]
    refine wpAnyH_ready (rs := [5]) (by kernel_rfl) (by simp) ?_
    refine AllReadyH.cons rfl (fun K hK => ?_) AllReadyH.nil
    go_simp
    refine (HMA _).out.mono ?_
    rintro e V2 ⟨rfl, hb2⟩
    have HT2 := Lib.hid (HT1.out.below hb2)
    have HB2 := Lib.hid (chain HB1.out hb2)
    have hS2 := HeldL.below hS1 hb2 HL1.out
    have HL2 : Hid (∀ y ∈ L, y.1 < V2.heap.size ∧ y.1 ∉ [G]) := Lib.hid (fun y hy => ⟨Nat.lt_of_lt_of_le (HL1.out y hy) hb2.size, HLN.out y hy⟩)
    clear hb2 HMA HT1 HB1 hS1 hHeld1 HL1
    go_wp2_with fail
    refine hK.out _ _ hS2 (fun hHeld2 => ?_)
    clear hK K
    try simp only [Act.put, List.getElem_toArray, List.getElem_cons_zero, List.getElem_cons_succ, List.setIfInBounds_toArray, List.set_cons_zero, List.set_cons_succ]
    refine wpAnyH_ready (rs := [6]) (by kernel_rfl) (by simp) ?_
    refine AllReadyH.cons rfl (fun K hK => ?_) AllReadyH.nil
    go_simp
    refine (HOM _ G es st1 F HT2.out hs0 (by omega) HLS.out).out.mono ?_
    rintro e V3 ⟨rfl, ⟨st3, hT3, hs3, hs4⟩, hf3⟩
    have HB3 := Lib.hid (HB2.out.trans (hf3.below (B := w.heap.size) (by have := HGF.out; simpa using this) HB2.out.size))
    have hS3 := HeldL.foot hS2 hf3 HL2.out
    have HTB3 := Lib.hid (HTB.out.below HB3.out)
    have HL3 : Hid (∀ y ∈ L, y.1 < V3.heap.size) := Lib.hid (fun y hy => Nat.lt_of_lt_of_le (HL2.out y hy).1 hf3.size)
    clear hT3 hf3 HOM HT2 HB2 hS2 hHeld2 HL2 hs0 hs1 hs3 hs4
    go_wp2_with fail
    refine hK.out _ _ hS3 (fun hHeld3 => ?_)
    clear hK K
    try simp only [Act.put, List.getElem_toArray, List.getElem_cons_zero, List.getElem_cons_succ, List.setIfInBounds_toArray, List.set_cons_zero, List.set_cons_succ]
    generalize ofE es 4 ab = X at *
    refine wpAnyH_take (i := 7) (v := ?_) rfl (by kernel_rfl) (by kernel_rfl) (by kernel_rfl) (fun _ _ _ h => h) (Or.inl ⟨by rfl, ?_⟩) (by assumption) ?_
    rotate_left
    · (intro w hSw; go_simp; try (with_reducible rfl))
    try simp only [Act.put, List.getElem_toArray, List.getElem_cons_zero, List.getElem_cons_succ, List.setIfInBounds_toArray, List.set_cons_zero, List.set_cons_succ]
    refine wpAnyH_take (i := 8) (v := ?_) rfl (by kernel_rfl) (by kernel_rfl) (by kernel_rfl) (fun _ _ _ h => h) (Or.inl ⟨by rfl, ?_⟩) (by assumption) ?_
    rotate_left
    · (intro w hSw; go_simp; try (with_reducible rfl))
    try simp only [Act.put, List.getElem_toArray, List.getElem_cons_zero, List.getElem_cons_succ, List.setIfInBounds_toArray, List.set_cons_zero, List.set_cons_succ]
    refine wpAnyH_ready (rs := [9]) (by kernel_rfl) (by simp) ?_
    refine AllReadyH.cons rfl (fun K hK => ?_) AllReadyH.nil
    go_simp
    refine (HLV _ HTB3.out).out.mono ?_
    rintro e V4 ⟨rfl, hb4⟩
    have HB4 := Lib.hid (chain HB3.out hb4)
    have hS4 := HeldL.below hS3 hb4 HL3.out
    clear hb4 HLV HB3 hS3 hHeld3 HL3
    go_wp2_with fail
    refine hK.out _ _ hS4 (fun hHeld4 => ?_)
    clear hK K
    try simp only [Act.put, List.getElem_toArray, List.getElem_cons_zero, List.getElem_cons_succ, List.setIfInBounds_toArray, List.set_cons_zero, List.set_cons_succ]
    refine wpAnyH_take (i := 10) (v := ?_) rfl (by kernel_rfl) (by kernel_rfl) (by kernel_rfl) (fun _ _ _ h => h) (Or.inl ⟨by rfl, ?_⟩) (by assumption) ?_
    rotate_left
    · (intro w hSw; go_simp; try (with_reducible rfl))
    try simp only [Act.put, List.getElem_toArray, List.getElem_cons_zero, List.getElem_cons_succ, List.setIfInBounds_toArray, List.set_cons_zero, List.set_cons_succ]
    refine wpAnyH_take (i := 11) (v := ?_) rfl (by kernel_rfl) (by kernel_rfl) (by kernel_rfl) (fun _ _ _ h => h) (Or.inl ⟨by rfl, ?_⟩) (by assumption) ?_
    rotate_left
    · (intro w hSw; go_simp; try (with_reducible rfl))
    try simp only [Act.put, List.getElem_toArray, List.getElem_cons_zero, List.getElem_cons_succ, List.setIfInBounds_toArray, List.set_cons_zero, List.set_cons_succ]
    refine wpAnyH_done (by kernel_rfl) ?_ _
    refine NoPanic.normal ?_
    go_wp2_with fail
    go_ret
    exact ⟨rfl, HB4.out⟩
  · have hd : decide ((12 : Int) < (len : Int)) = false := by simp; omega
    have hdn : decide (12 < len) = false := by simp; omega
    have HNW := HNR len (by omega) (by omega)
    have HLS : Hid ((newA D len).length ≤ 1000) := Lib.hid (Nat.le_trans (HLE len) (by omega))
    clear HNR HLE hrow
    go_enter Tryd.func4, Tryd.ntmps4
    go_wp2_with fail
    refine HNW.out.mono ?_
    rintro e w1 ⟨G, F, rfl, hT, hF, hb⟩
    have HT1 := Lib.hid hT
    have HF := Lib.hid hF
    have HB1 := Lib.hid hb
    clear hT hF hb HNW
    generalize newA D len = es at *
    go_wp2_with fail
    refine (HO4 _).out.mono ?_
    rintro e w2 ⟨rfl, hb2⟩
    have HT2 := Lib.hid (HT1.out.below hb2)
    have HB2 := Lib.hid (chain HB1.out hb2)
    have HZ := Lib.hid (addr_zeroed w2)
    have HG2 : Hid (G < w2.heap.size) := Lib.hid (HT2.out.lt.2 G HT2.out.lt.1)
    clear hb2 HO4 HT1 HB1
    go_upto_region 7 with (refine store_addr HZ _ _ A16 rfl rfl rfl rfl (fun W3 HW3 HA3 => ?_))
    have HT3 := Lib.hid (HT2.out.below (below_newA HW3))
    have HB3 := Lib.hid (chain HB2.out (below_newA HW3))
    clear HT2 HB2 HZ HW3
    generalize w2.heap.size = BA at *
    have HGw : Hid (∀ B, w.heap.size ≤ B → ∀ k ∈ [G], w.heap.size ≤ k) := Lib.hid (fun B _ k hk => by rw [List.mem_singleton.1 hk]; exact HF.out G HT3.out.lt.1)
    obtain ⟨L, hL⟩ : ∃ L, [(BA, 0, addrL 4 ab)] = L := ⟨_, rfl⟩
    have HK : Hid (HeldL L W3.drew) := Lib.hid (by rw [← hL]; intro y hy; rw [List.mem_singleton.1 hy]; exact HA3.out.range)
    have MA : Hid (InL L BA 0 (addrL 4 ab)) := Lib.hid (fun W h => h.get (by rw [← hL]; simp))
    have HLT : Hid (∀ y ∈ L, y.1 < W3.heap.size ∧ y.1 ∉ [G]) := Lib.hid (by rw [← hL]; intro y hy; rw [List.mem_singleton.1 hy]; exact ⟨HA3.out.lt, by have := HG2.out; simp; omega⟩)
    have HTD := Lib.hid (HT3.out.below (Below.refl _ _).drew)
    have HBD : Hid (Below w.heap.size w W3.drew) := Lib.hid HB3.out.drew
    have HLD : Hid (∀ y ∈ L, y.1 < W3.drew.heap.size ∧ y.1 ∉ [G]) := HLT
    have HGF := Lib.hid (HF.out G HT3.out.lt.1)
    clear hL HA3 HT3 HB3 HLT HG2 HGw HF
    have HLN : Hid (∀ y ∈ L, y.1 ∉ [G]) := Lib.hid (fun y hy => (HLD.out y hy).2)
    refine wp_region_noPanic ?_
    refine wp_region_held_drew (S := HeldL L) (by kernel_rfl) HK.out (fun hHeld => ?_)
    generalize W3.drew = V at *
    refine wpAnyH_take (i := 0) (v := ?_) rfl (by kernel_rfl) (by kernel_rfl) (by kernel_rfl) (fun _ _ _ h => h) (Or.inl ⟨by rfl, ?_⟩) (by assumption) ?_
    rotate_left
    · (intro w hSw; go_simp; try (with_reducible rfl))
    try simp only [Act.put, List.getElem_toArray, List.getElem_cons_zero, List.setIfInBounds_toArray, List.set_cons_zero, List.set_cons_succ]
    refine wpAnyH_take (i := 1) rfl (by kernel_rfl) (by kernel_rfl) (by kernel_rfl) (fun _ _ _ h => h) (yields_addr_l A16 MA (by rfl) _ rfl rfl) (by assumption) ?_
    try simp only [Act.put, List.getElem_toArray, List.getElem_cons_zero, List.getElem_cons_succ, List.setIfInBounds_toArray, List.set_cons_zero, List.set_cons_succ]
    refine wpAnyH_take (i := 3) (v := ?_) rfl (by kernel_rfl) (by kernel_rfl) (by kernel_rfl) (fun _ _ _ h => h) (Or.inl ⟨by rfl, ?_⟩) (by assumption) ?_
    rotate_left
    · (intro w hSw; go_simp; try (with_reducible rfl))
    try simp only [Act.put, List.getElem_toArray, List.getElem_cons_zero, List.getElem_cons_succ, List.setIfInBounds_toArray, List.set_cons_zero, List.set_cons_succ]
    refine wpAnyH_take (i := 4) rfl (by kernel_rfl) (by kernel_rfl) (by kernel_rfl) (fun _ _ _ h => h) (yields_addr_l A16 MA (by rfl) _ rfl rfl) (by assumption) ?_
    try simp only [Act.put, List.getElem_toArray, List.getElem_cons_zero, List.getElem_cons_succ, List.setIfInBounds_toArray, List.set_cons_zero, List.set_cons_succ]
    refine wpAnyH_ready (rs := [2]) (by kernel_rfl) (by simp) ?_
    refine AllReadyH.cons rfl (fun K hK => ?_) AllReadyH.nil
    go_simp
    refine (HOF _ G es 0 F HTD.out (by decide) (by decide) HLS.out).out.mono ?_
    rintro e V1 ⟨rfl, ⟨st1, hT1, hs0, hs1⟩, hf1⟩
    have HT1 := Lib.hid hT1
    have HB1 := Lib.hid (HBD.out.trans (hf1.below (B := w.heap.size) (by have := HGF.out; simpa using this) HBD.out.size))
    have hS1 := HeldL.foot HK.out hf1 HLD.out
    have HL1 : Hid (∀ y ∈ L, y.1 < V1.heap.size) := Lib.hid (fun y hy => Nat.lt_of_lt_of_le (HLD.out y hy).1 hf1.size)
    clear hT1 hf1 HOF HTD HBD HLD
    go_wp2_with fail
    refine hK.out _ _ hS1 (fun hHeld1 => ?_)
    clear hK K
    try simp only [Act.put, List.getElem_toArray, List.getElem_cons_zero, List.getElem_cons_succ, List.setIfInBounds_toArray, List.set_cons_zero, List.set_cons_succ]
    refine wpAnyH_ready (rs := [5]) (by kernel_rfl) (by simp) ?_
    refine AllReadyH.cons rfl (fun K hK => ?_) AllReadyH.nil
    go_simp
    refine (HMA _).out.mono ?_
    rintro e V2 ⟨rfl, hb2⟩
    have HT2 := Lib.hid (HT1.out.below hb2)
    have HB2 := Lib.hid (chain HB1.out hb2)
    have hS2 := HeldL.below hS1 hb2 HL1.out
    have HL2 : Hid (∀ y ∈ L, y.1 < V2.heap.size ∧ y.1 ∉ [G]) := Lib.hid (fun y hy => ⟨Nat.lt_of_lt_of_le (HL1.out y hy) hb2.size, HLN.out y hy⟩)
    clear hb2 HMA HT1 HB1 hS1 hHeld1 HL1
    go_wp2_with fail
    refine hK.out _ _ hS2 (fun hHeld2 => ?_)
    clear hK K
    try simp only [Act.put, List.getElem_toArray, List.getElem_cons_zero, List.getElem_cons_succ, List.setIfInBounds_toArray, List.set_cons_zero, List.set_cons_succ]
    refine wpAnyH_ready (rs := [6]) (by kernel_rfl) (by simp) ?_
    refine AllReadyH.cons rfl (fun K hK => ?_) AllReadyH.nil
    go_simp
    refine (HOM _ G es st1 F HT2.out hs0 (by omega) HLS.out).out.mono ?_
    rintro e V3 ⟨rfl, ⟨st3, hT3, hs3, hs4⟩, hf3⟩
    have HB3 := Lib.hid (HB2.out.trans (hf3.below (B := w.heap.size) (by have := HGF.out; simpa using this) HB2.out.size))
    have hS3 := HeldL.foot hS2 hf3 HL2.out
    have HTB3 := Lib.hid (HTB.out.below HB3.out)
    have HL3 : Hid (∀ y ∈ L, y.1 < V3.heap.size) := Lib.hid (fun y hy => Nat.lt_of_lt_of_le (HL2.out y hy).1 hf3.size)
    clear hT3 hf3 HOM HT2 HB2 hS2 hHeld2 HL2 hs0 hs1 hs3 hs4
    go_wp2_with fail
    refine hK.out _ _ hS3 (fun hHeld3 => ?_)
    clear hK K
    try simp only [Act.put, List.getElem_toArray, List.getElem_cons_zero, List.getElem_cons_succ, List.setIfInBounds_toArray, List.set_cons_zero, List.set_cons_succ]
    generalize ofE es 4 ab = X at *
    refine wpAnyH_take (i := 7) (v := ?_) rfl (by kernel_rfl) (by kernel_rfl) (by kernel_rfl) (fun _ _ _ h => h) (Or.inl ⟨by rfl, ?_⟩) (by assumption) ?_
    rotate_left
    · (intro w hSw; go_simp; try (with_reducible rfl))
    try simp only [Act.put, List.getElem_toArray, List.getElem_cons_zero, List.getElem_cons_succ, List.setIfInBounds_toArray, List.set_cons_zero, List.set_cons_succ]
    refine wpAnyH_take (i := 8) (v := ?_) rfl (by kernel_rfl) (by kernel_rfl) (by kernel_rfl) (fun _ _ _ h => h) (Or.inl ⟨by rfl, ?_⟩) (by assumption) ?_
    rotate_left
    · (intro w hSw; go_simp; try (with_reducible rfl))
    try simp only [Act.put, List.getElem_toArray, List.getElem_cons_zero, List.getElem_cons_succ, List.setIfInBounds_toArray, List.set_cons_zero, List.set_cons_succ]
    refine wpAnyH_ready (rs := [9]) (by kernel_rfl) (by simp) ?_
    refine AllReadyH.cons rfl (fun K hK => ?_) AllReadyH.nil
    go_simp
    refine (HLV _ HTB3.out).out.mono ?_
    rintro e V4 ⟨rfl, hb4⟩
    have HB4 := Lib.hid (chain HB3.out hb4)
    have hS4 := HeldL.below hS3 hb4 HL3.out
    clear hb4 HLV HB3 hS3 hHeld3 HL3
    go_wp2_with fail
    refine hK.out _ _ hS4 (fun hHeld4 => ?_)
    clear hK K
    try simp only [Act.put, List.getElem_toArray, List.getElem_cons_zero, List.getElem_cons_succ, List.setIfInBounds_toArray, List.set_cons_zero, List.set_cons_succ]
    refine wpAnyH_take (i := 10) (v := ?_) rfl (by kernel_rfl) (by kernel_rfl) (by kernel_rfl) (fun _ _ _ h => h) (Or.inl ⟨by rfl, ?_⟩) (by assumption) ?_
    rotate_left
    · (intro w hSw; go_simp; try (with_reducible rfl))
    try simp only [Act.put, List.getElem_toArray, List.getElem_cons_zero, List.getElem_cons_succ, List.setIfInBounds_toArray, List.set_cons_zero, List.set_cons_succ]
    refine wpAnyH_take (i := 11) (v := ?_) rfl (by kernel_rfl) (by kernel_rfl) (by kernel_rfl) (fun _ _ _ h => h) (Or.inl ⟨by rfl, ?_⟩) (by assumption) ?_
    rotate_left
    · (intro w hSw; go_simp; try (with_reducible rfl))
    try simp only [Act.put, List.getElem_toArray, List.getElem_cons_zero, List.getElem_cons_succ, List.setIfInBounds_toArray, List.set_cons_zero, List.set_cons_succ]
    refine wpAnyH_done (by kernel_rfl) ?_ _
    refine NoPanic.normal ?_
    go_wp2_with fail
    go_ret
    exact ⟨rfl, HB4.out⟩

theorem door_met (os : Os) (args : Array Value) : laidMetH Tryd.prog Rows.spaceSameRow.laid ((World.doorLaid Tryd.prog 400 os).forCall (fun _ _ => 0) ⟨#[], args, []⟩).memory :=
  laidMetH_of_parts3 (fuel := 8) (laidMet_of_run' 8 (by kernel_rfl) (by kernel_rfl)) (by kernel_rfl) (by kernel_rfl)

set_option maxRecDepth 100000 in
theorem lifted (os : Os) (started : os.Started) (H : Type) (enc : TypeId × Value → H) :
    ReturnsInHanded {} Tryd.checked os 4 .any (fun w args => (Rows.spaceSameSpec.pre enc Tryd.prog Tryd.f4 [] false w args ∧ laidMetH Tryd.prog Rows.spaceSameRow.laid w) ∧ sizedMet enc Tryd.prog Tryd.f4 (OpenSpec.ofChange Rows.spaceSameSpec) false w args)
      (Rows.spaceSameSpec.post enc Tryd.prog Tryd.f4 false true false false) := by
  refine handed_shaped (C := Tryd.checked) (X := fun w _ => laidMetH Tryd.prog Rows.spaceSameRow.laid w) (fun _ _ _ hh h => h.of_heap hh) own started (by kernel_rfl) Tryd.func4
    (ChangeSpec.witness_shaped (enc := enc) (C := Tryd.checked) (os := os) (X := fun w _ => laidMetH Tryd.prog Rows.spaceSameRow.laid w) false (World.doorLaid Tryd.prog 400 os) #[.slice none 0 0, .int .u32 0] 8 rfl (World.shaped_of_RefB (by kernel_rfl) (by kernel_rfl)) (by kernel_rfl) (by kernel_rfl) (by kernel_rfl) (door_met os _)) ?_
  intro W base args ds gs before hval0 hW hL hsh
  have hval : ∀ (j : Nat) t v, Tryd.f4.params[j]? = some t → args[j]? = some v → Value.okWide Tryd.prog W .any base t v := hval0
  have hW' := hW
  obtain ⟨p, q, hA0, hV, rfl, hfz, hnd⟩ := hW
  have hA : DataW.TrodAll enc Tryd.prog W 0 (fun _ => true) true Tryd.f4.params.toList args.toList ds p := hA0
  rw [Tryd.params4] at hA hval
  obtain ⟨v0, vs0, d0, ds0, p0, q0, hargs, rfl, rfl, h0, r0⟩ := trodAll_cons hA
  obtain ⟨v1, vs1, d1, ds1, p1, q1, rfl, rfl, rfl, h1, r1⟩ := trodAll_cons r0
  obtain ⟨rfl, rfl, rfl⟩ := trodAll_nil r1
  obtain rfl : args = #[v0, v1] := by cases args; simp_all
  obtain ⟨rfl, rfl⟩ := trodVars_none hV
  obtain ⟨a0, len0, cap0, rfl⟩ := okWide_slice Tryd.underlying22 (hval 0 22 v0 rfl rfl)
  have k0 := h0
  have lt0 : ∀ x ∈ p0, x.block < W.heap.size := by obtain ⟨m, hm⟩ := k0; exact DataW.trod_lt m _ _ _ hm
  obtain ⟨z0, w0⟩ := open_ents h0
  obtain ⟨a1, rfl, rfl, rfl, w1⟩ := open_int Tryd.underlying48 (hval 1 48 v1 rfl rfl) h1
  clear hA0 hval0
  refine (walk a0 len0 cap0 z0 a1 W w0 w1 (tabs_of Rows.spaceSameRow.laid rfl hL hsh)).mono fun e W' ⟨he, bel⟩ => ?_
  subst he
  exact ⟨_, rfl, _, _, _, [], _, [], hW', trodAll_mk1 (shut_bool Tryd.underlying4 _), (trodAll_cons_mk (Below.trod laidOut (by kernel_rfl) (of_decide_eq_true (by kernel_rfl)) k0 bel lt0) (trodAll_cons_mk (shut_int Tryd.underlying48 w1) trodAll_mk0)), rfl, bel.frame _, fun h => by cases h⟩

theorem over : Rows.SpaceSameSaid :=
  OpenClaim.holds_of_wide 4 Tryd.f4 rfl rfl rfl rfl rfl rfl rfl ⟨rfl, rfl, rfl, rfl, rfl⟩ rfl rfl rfl rfl rfl (by kernel_rfl) Tryd.func4 (by kernel_rfl)
    (of_decide_eq_true (by kernel_rfl)) (by unfold Func.isWrapper; first | (rw [if_pos (by decide +kernel)]; kernel_rfl) | (rw [if_neg (by decide +kernel)]; exact ⟨rfl, rfl⟩))
    (fun os started H enc _ => lifted os started H enc)


theorem proved : Rows.SpaceSameCardSaid :=
  Claim7.holds_tied_plain_at .later [] [.data, .data, .data] true _ false
    over (fun _ h => by cases h) (by kernel_rfl) (fun _ h => by cases h) spaceSame_row_tie rfl ⟨rfl, rfl⟩ (by kernel_rfl) rfl
    (fun f fn hf hfn => by
      obtain rfl : f = 4 := Option.some.inj ((show Tryd.prog.funcNamed "abatis/abatislaw07.SpaceSame" = some 4 by kernel_rfl).symm.trans hf) |>.symm
      obtain rfl : fn = Tryd.f4 := (Option.some.inj (Tryd.func4.symm.trans hfn)).symm
      exact ⟨by kernel_rfl, fun j t ht => by
        rw [Tryd.params4] at ht
        have hm : t ∈ [22, 48] := by simpa using Array.mem_of_getElem? ht
        have hall : ([22, 48].all fun u => !Tryd.prog.wantsStandIn u) = true := by kernel_rfl
        exact (show Tryd.prog.wantsStandIn t = false by simpa using List.all_eq_true.1 hall t hm)⟩)
    (by kernel_rfl)
#print axioms proved
end Go.Proofs.YtgbajagacmfcmaaDoor.spaceSame

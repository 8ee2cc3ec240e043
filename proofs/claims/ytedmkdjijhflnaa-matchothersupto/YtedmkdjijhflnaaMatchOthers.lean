/- MatchOthers, the upto form: records of names that are far from all that is asked for change nothing of what is told. -/
import Derived.Test.YtedmkdjijhflnaaB5
import Derived.Test.YtedmkdjijhflnaaRows
import Derived.ProofKit
import Derived.Deep.Cut
import Derived.Deep.RegionHeld3
import Derived.OpenShut
import Derived.ShutString
import Derived.ChangeOld
import Derived.Below
import Derived.JoinedCond
namespace Go.Proofs.Ytedmkdjijhflnaa.matchOthers
open Go.ChangeShapes Go.WideShapes Go.ChangeAt Go.RowKit
open Go.ChangeMaps (open_string shut_string)
set_option linter.unusedVariables false
set_option maxRecDepth 20000
set_option linter.unusedSimpArgs false

theorem own : ownKnob Try.prog.godebug = none := by kernel_rfl

set_option maxRecDepth 100000 in
set_option maxHeartbeats 8000000 in
theorem walk (q : Qry) (a : Option Addr) (len cap : Nat) (D : List Rec) (a2 : Option Addr) (len2 cap2 : Nat) (D2 : List Rec) (z : Int) (w : World) (hq : QryGot q 1048576) (hD : RecsIn w a len cap D 1048576) (hD2 : RecsIn w a2 len2 cap2 D2 1048576) (w3 : (Lit.int .i64 z).wf = true) :
    Calls Try.prog 3 #[qryV q, .slice a len cap, .slice a2 len2 cap2, .int .i64 z] w fun e w' => e = .returned (.bool true) ∧ Below w.heap.size w w' := by
  have hnm : q.nm.size ≤ 2000000 := Nat.le_trans hq.nm (by decide)
  have HNM := Lib.hid hnm
  have HFW := fun W (h : Below w.heap.size w W) => Lib.hid (few11_any a cap D 10 W (hD.at0.below h) (by decide))
  simp only [hD.len] at HFW
  have HA := Lib.hid (hD.at0.take 10)
  have HALL := Lib.hid ((all2_of hD).take 10)
  have HLE : Hid ((D.take 10).length ≤ 10) := Lib.hid (by rw [List.length_take]; omega)
  have HTGS : Hid (∀ r ∈ D.take 10, r.tg.size ≤ 1048576) := Lib.hid (fun r hr => (hD.room r (List.mem_of_mem_take hr)).2.1)
  have HO := Lib.hid hD2.at0
  have HOL := Lib.hid hD2.len
  have HOR := Lib.hid hD2.room
  have HLV := fun W => Lib.hid (lives11_any W)
  have HW3 := Lib.hid w3
  generalize D.take 10 = L at *
  have HCB := Lib.hid (chain_bound HTGS.out 20 604800 hq.nm)
  have HCP := Lib.hid (chain_pos L 20 q.nm 604800)
  have HCH : ∀ W, Below w.heap.size w W → Hid (Calls Try.prog 10 #[.string q.nm, .slice a L.length cap, .int .i64 20] W (ChainRet W (chainP L 20 q.nm 604800))) := fun W h => Lib.hid (refChain11_any a cap L q.nm 20 W (HA.out.below h) HALL.out hnm (by decide))
  have HAS := fun W => Lib.hid (pack_as q W)
  have HFO := fun W h => Lib.hid (pack_fo q a cap L L.length rfl W h)
  have HTE := fun (g : Nat) W h => Lib.hid (pack_te q a cap L L.length rfl HALL.out hnm (by have := HLE.out; omega) g W h)
  have HFG0 := fun (a : Option Addr) (c : Nat) (E : List Rec) (n : Nat) (hn : E.length = n) W h => Lib.hid (pack_fo q a c E n hn W h)
  have HTG0 := fun (a : Option Addr) (c : Nat) (E : List Rec) (n : Nat) (hn : E.length = n) (hA : All2 E) (hl : n ≤ 900) (g : Nat) W h => Lib.hid (pack_te q a c E n hn hA hnm hl g W h)
  obtain ⟨N, hN⟩ : ∃ N, L.length = N := ⟨_, rfl⟩
  have HN := Lib.hid hN
  simp only [hN] at HFW HFO HTE HCH
  clear hq hD hD2 hN hnm w3 HTGS
  obtain ⟨id, nm, ty, sv⟩ := q
  unfold qryV at *
  simp only at HAS HFO HTE HFG0 HTG0 HCH HCB HCP HNM ⊢
  obtain ⟨CX, hCX⟩ : ∃ CX, chainP L 20 nm 604800 = CX := ⟨_, rfl⟩
  have HCX := Lib.hid hCX
  simp only [hCX] at HCH HCB HCP
  clear hCX
  obtain ⟨xs, ct, ce⟩ := CX
  simp only at HCB HCP
  obtain ⟨X, hX⟩ : ∃ X, tellP 33152 nm ty L = X := ⟨_, rfl⟩
  have HX := Lib.hid hX
  simp only [hX] at HTE
  clear hX
  obtain ⟨W0, hW0⟩ : ∃ W0, w.alloc (.cells #[.int .i64 id, .string nm, .int .i64 ty, .int .i64 sv] 23) = W0 := ⟨_, rfl⟩
  have HB0 : Hid (Below w.heap.size w W0) := Lib.hid (by rw [← hW0]; exact (Below.refl _ _).alloc (Nat.le_refl _) _)
  have HQ : Hid (CellsAt W0 w.heap.size [.int .i64 id, .string nm, .int .i64 ty, .int .i64 sv]) := Lib.hid (by rw [← hW0]; exact CellsAt.new w 23 [.int .i64 id, .string nm, .int .i64 ty, .int .i64 sv])
  go_enter Try.func3, Try.ntmps3
  go_upto_region 1 with fail
  try rw [hW0]
  clear hW0
  go_wp2_with fail
  refine (HFW W0 HB0.out).out.mono ?_
  rintro e wq ⟨rfl, hwq⟩
  obtain rfl : W0 = wq := hwq.symm
  clear hwq HFW
  have HA2 := Lib.hid (HA.out.below HB0.out)
  go_upto_region 2 with fail
  go_cut [9] from 21 (fun s wx => ∃ (B : Nat) (v : Value) (Bt : Nat), s = .pointer (some ⟨B, 0, none⟩) ∧ Hid (CellsAt wx B (tldL X v)) ∧ Hid (RowA wx Bt v X.ad) ∧ Hid (Below W0.drew.heap.size W0.drew wx))
  case first =>
    have hsT : (Try.prog.info? 29).map (·.size) = some 5 := by kernel_rfl
    have hsQ : (Try.prog.info? 23).map (·.size) = some ([.int .i64 id, .string nm, .int .i64 ty, .int .i64 sv] : List Value).length := by kernel_rfl
    have HQd := Lib.hid (HQ.out.below (Below.refl _ _).drew)
    have HG2 := Lib.hid (HA2.out.below (Below.refl _ _).drew)
    obtain ⟨S, hS⟩ : ∃ S : World → Prop, (fun U => U.rangeAt w.heap.size 0 [.int .i64 id, .string nm, .int .i64 ty, .int .i64 sv]) = S := ⟨_, rfl⟩
    have C1 : Hid (∀ w', S w' → w'.rangeAt w.heap.size 0 [.int .i64 id, .string nm, .int .i64 ty, .int .i64 sv]) := Lib.hid (fun w' h => by rw [← hS] at h; exact h)
    have HSI : Hid (∀ U, Below W0.drew.heap.size W0.drew U → S U) := Lib.hid (fun U h => by rw [← hS]; exact (HQd.out.below h).range)
    have HSO : Hid (∀ U, Below W0.drew.heap.size W0.drew U → ∀ B, W0.drew.heap.size ≤ B → ∀ vs X, X = U.setCells B 0 vs → S X) := Lib.hid (fun U h B hB vs X e => by
      have h1 := HQd.out.lt
      rw [← hS, e]
      exact ((HQd.out.below h).apart (by omega) _).range)
    clear hS
    refine wp_region_noPanic ?_
    refine wp_region_held_drew (S := S) (by kernel_rfl) (HSI.out _ (Below.refl _ _)) (fun hHeld => ?_)
    generalize W0.drew = V at *
    have HG0 : Hid (Below V.heap.size V V) := Lib.hid (Below.refl _ _)
    refine wpAnyH_take (i := 0) rfl (by kernel_rfl) (by kernel_rfl) (by kernel_rfl) (fun _ _ _ h => h) (yields_row C1 Try.underlying23 rfl hsQ (by rfl) _ rfl rfl) (by assumption) ?_
    try simp only [Act.put, List.getElem_toArray, List.getElem_cons_zero, List.setIfInBounds_toArray, List.set_cons_zero, List.set_cons_succ]
    refine wpAnyH_take (i := 1) rfl (by kernel_rfl) (by kernel_rfl) (by kernel_rfl) (fun _ _ _ h => h) (yields_row C1 Try.underlying23 rfl hsQ (by rfl) _ rfl rfl) (by assumption) ?_
    try simp only [Act.put, List.getElem_toArray, List.getElem_cons_zero, List.getElem_cons_succ, List.setIfInBounds_toArray, List.set_cons_zero, List.set_cons_succ]
    refine wpAnyH_take (i := 3) (v := ?_) rfl (by kernel_rfl) (by kernel_rfl) (by kernel_rfl) (fun _ _ _ h => h) (Or.inl ⟨by rfl, ?_⟩) (by assumption) ?_
    rotate_left
    · (intro w hSw; go_simp; try (with_reducible rfl))
    try simp only [Act.put, List.getElem_toArray, List.getElem_cons_zero, List.getElem_cons_succ, List.setIfInBounds_toArray, List.set_cons_zero, List.set_cons_succ]
    clear hsQ C1 hHeld
    obtain ⟨U0, hU0⟩ : ∃ U0, V = U0 := ⟨V, rfl⟩
    clear U0 hU0
    refine wpAnyH_ready (rs := [2, 6]) (by kernel_rfl) (by simp) ?_
    refine AllReadyH.cons rfl (fun K hK => ?_) (ready_one rfl rfl (fun K hK => ?_))
    · rw [if_pos (by rfl)]
      go_simp
      refine (HAS V).out.mono ?_
      rintro e U1 ⟨rfl, hb⟩
      go_wp2_with fail
      have HG0n := Lib.hid (chain HG0.out hb)
      clear HG0
      have HG0 := HG0n
      clear HG0n
      have HG2n := Lib.hid (HG2.out.below hb)
      clear HG2
      have HG2 := HG2n
      clear HG2n
      clear hb
      refine hK.out _ _ (HSI.out _ HG0.out) (fun hHeld1 => ?_)
      clear hK K
      try simp only [Act.put, List.getElem_toArray, List.getElem_cons_zero, List.getElem_cons_succ, List.setIfInBounds_toArray, List.set_cons_zero, List.set_cons_succ]
      refine wpAnyH_ready (rs := [4, 6]) (by kernel_rfl) (by simp) ?_
      refine AllReadyH.cons rfl (fun K hK => ?_) (ready_one rfl rfl (fun K hK => ?_))
      · rw [if_pos (by rfl)]
        go_simp
        refine (HFO U1 HG2.out).out.mono ?_
        rintro e U2 ⟨g, rfl, hm, hb⟩
        have HG2m := Lib.hid hm
        clear hm
        go_wp2_with fail
        have HG0n := Lib.hid (chain HG0.out hb)
        clear HG0
        have HG0 := HG0n
        clear HG0n
        clear HG2
        have HG2 := HG2m
        clear HG2m
        clear hb
        refine hK.out _ _ (HSI.out _ HG0.out) (fun hHeld2 => ?_)
        clear hK K
        try simp only [Act.put, List.getElem_toArray, List.getElem_cons_zero, List.getElem_cons_succ, List.setIfInBounds_toArray, List.set_cons_zero, List.set_cons_succ]
        refine wpAnyH_ready (rs := [5, 6]) (by kernel_rfl) (by simp) ?_
        refine AllReadyH.cons rfl (fun K hK => ?_) (ready_one rfl rfl (fun K hK => ?_))
        · rw [if_pos (by rfl)]
          go_simp
          refine (HTE g U2 HG2.out).out.mono ?_
          rintro e U3 ⟨v, rfl, hr, hb⟩
          obtain ⟨av, nv, cv, rfl⟩ := hr.isSlice
          have HG3 : Hid (RowA U3 V.heap.size (.slice av nv cv) X.ad) := Lib.hid (hr.mono HG0.out.size)
          clear hr
          go_wp2_with fail
          have HG0n := Lib.hid (chain HG0.out hb)
          clear HG0
          have HG0 := HG0n
          clear HG0n
          have HG2n := Lib.hid (HG2.out.below hb)
          clear HG2
          have HG2 := HG2n
          clear HG2n
          clear hb
          refine hK.out _ _ (HSI.out _ HG0.out) (fun hHeld3 => ?_)
          clear hK K
          try simp only [Act.put, List.getElem_toArray, List.getElem_cons_zero, List.getElem_cons_succ, List.setIfInBounds_toArray, List.set_cons_zero, List.set_cons_succ]
          refine wpAnyH_ready (rs := [6]) (by kernel_rfl) (by simp) ?_
          refine ready_one rfl rfl (fun K hK => ?_)
          go_wp2_with fail
          obtain ⟨U4, hU⟩ : ∃ X, U3.alloc (.cells #[.int .i64 0, .slice none 0 0, .int .i64 0, .string ⟨#[]⟩, .int .i64 0] 29) = X := ⟨_, rfl⟩
          have hb : Below U3.heap.size U3 U4 := by rw [← hU]; exact (Below.refl _ _).alloc (Nat.le_refl _) _
          have HZ : Hid (CellsAt U4 U3.heap.size zT) := Lib.hid (by rw [← hU]; exact CellsAt.new U3 29 zT)
          try rw [hU]
          clear hU
          obtain ⟨B, hB⟩ : ∃ B, U3.heap.size = B := ⟨_, rfl⟩
          have HBL : Hid (V.heap.size ≤ B) := Lib.hid (by rw [← hB]; exact HG0.out.size)
          have HNE : Hid (∀ g, (Value.slice av nv cv).ownBlock = some g → g ≠ B) := Lib.hid (fun g hg => by rw [← hB]; exact Nat.ne_of_lt (HG3.out.lt g hg).2)
          rw [hB] at HZ
          try rw [hB]
          clear hB
          have HG0n := Lib.hid (chain HG0.out hb)
          clear HG0
          have HG0 := HG0n
          clear HG0n
          have HG2n := Lib.hid (HG2.out.below hb)
          clear HG2
          have HG2 := HG2n
          clear HG2n
          have HG3n := Lib.hid (HG3.out.below hb)
          clear HG3
          have HG3 := HG3n
          clear HG3n
          clear hb
          refine hK.out _ _ (HSI.out _ HG0.out) (fun hHeld4 => ?_)
          clear hK K
          try simp only [Act.put, List.getElem_toArray, List.getElem_cons_zero, List.getElem_cons_succ, List.setIfInBounds_toArray, List.set_cons_zero, List.set_cons_succ]
          refine wpAnyH_ready (rs := [7]) (by kernel_rfl) (by simp) ?_
          refine ready_one rfl rfl (fun K hK => ?_)
          refine wp_store_of HZ rfl hsT _ _ rfl rfl rfl (vs := tldL X (.slice av nv cv)) rfl rfl rfl (fun Xw HX HXC => ?_)
          have HSX : Hid (S Xw) := Lib.hid (HSO.out _ HG0.out B HBL.out _ _ HX.out)
          refine hK.out _ _ HSX.out (fun hHeldX => ?_)
          clear hK K
          try simp only [Act.put, List.getElem_toArray, List.getElem_cons_zero, List.getElem_cons_succ, List.setIfInBounds_toArray, List.set_cons_zero, List.set_cons_succ]
          refine wpAnyH_done (by kernel_rfl) ?_ _
          refine NoPanic.normal ?_
          clear hHeld1 hHeld2 hHeld3 hHeld4 hHeldX
          go_wp2_with fail
          go_meet
          case rel => exact ⟨B, _, _, rfl, Lib.hid HXC.out, Lib.hid ((HG3.out.kept2 (w' := Xw) (fun g hg => by rw [HX.out]; exact heap_setCells_other _ _ _ _ _ (HNE.out g hg)))), Lib.hid (by rw [HX.out]; exact below_cells HBL.out _ _ _ HG0.out)⟩
        · go_wp2_with fail
          obtain ⟨U3, hU⟩ : ∃ X, U2.alloc (.cells #[.int .i64 0, .slice none 0 0, .int .i64 0, .string ⟨#[]⟩, .int .i64 0] 29) = X := ⟨_, rfl⟩
          have hb : Below U2.heap.size U2 U3 := by rw [← hU]; exact (Below.refl _ _).alloc (Nat.le_refl _) _
          have HZ : Hid (CellsAt U3 U2.heap.size zT) := Lib.hid (by rw [← hU]; exact CellsAt.new U2 29 zT)
          try rw [hU]
          clear hU
          obtain ⟨B, hB⟩ : ∃ B, U2.heap.size = B := ⟨_, rfl⟩
          have HBL : Hid (V.heap.size ≤ B) := Lib.hid (by rw [← hB]; exact HG0.out.size)
          rw [hB] at HZ
          try rw [hB]
          clear hB
          have HG0n := Lib.hid (chain HG0.out hb)
          clear HG0
          have HG0 := HG0n
          clear HG0n
          have HG2n := Lib.hid (HG2.out.below hb)
          clear HG2
          have HG2 := HG2n
          clear HG2n
          clear hb
          refine hK.out _ _ (HSI.out _ HG0.out) (fun hHeld3 => ?_)
          clear hK K
          try simp only [Act.put, List.getElem_toArray, List.getElem_cons_zero, List.getElem_cons_succ, List.setIfInBounds_toArray, List.set_cons_zero, List.set_cons_succ]
          refine wpAnyH_ready (rs := [5]) (by kernel_rfl) (by simp) ?_
          refine ready_one rfl rfl (fun K hK => ?_)
          go_simp
          refine (HTE g U3 HG2.out).out.mono ?_
          rintro e U4 ⟨v, rfl, hr, hb⟩
          obtain ⟨av, nv, cv, rfl⟩ := hr.isSlice
          have HNE : Hid (∀ g, (Value.slice av nv cv).ownBlock = some g → g ≠ B) := Lib.hid (fun g hg => by have h1 := (hr.lt g hg).1; have h2 := HZ.out.lt; omega)
          have HG3 : Hid (RowA U4 V.heap.size (.slice av nv cv) X.ad) := Lib.hid (hr.mono HG0.out.size)
          clear hr
          go_wp2_with fail
          have HG0n := Lib.hid (chain HG0.out hb)
          clear HG0
          have HG0 := HG0n
          clear HG0n
          have HG2n := Lib.hid (HG2.out.below hb)
          clear HG2
          have HG2 := HG2n
          clear HG2n
          have HZn := Lib.hid (HZ.out.below hb)
          clear HZ
          have HZ := HZn
          clear HZn
          clear hb
          refine hK.out _ _ (HSI.out _ HG0.out) (fun hHeld4 => ?_)
          clear hK K
          try simp only [Act.put, List.getElem_toArray, List.getElem_cons_zero, List.getElem_cons_succ, List.setIfInBounds_toArray, List.set_cons_zero, List.set_cons_succ]
          refine wpAnyH_ready (rs := [7]) (by kernel_rfl) (by simp) ?_
          refine ready_one rfl rfl (fun K hK => ?_)
          refine wp_store_of HZ rfl hsT _ _ rfl rfl rfl (vs := tldL X (.slice av nv cv)) rfl rfl rfl (fun Xw HX HXC => ?_)
          have HSX : Hid (S Xw) := Lib.hid (HSO.out _ HG0.out B HBL.out _ _ HX.out)
          refine hK.out _ _ HSX.out (fun hHeldX => ?_)
          clear hK K
          try simp only [Act.put, List.getElem_toArray, List.getElem_cons_zero, List.getElem_cons_succ, List.setIfInBounds_toArray, List.set_cons_zero, List.set_cons_succ]
          refine wpAnyH_done (by kernel_rfl) ?_ _
          refine NoPanic.normal ?_
          clear hHeld1 hHeld2 hHeld3 hHeld4 hHeldX
          go_wp2_with fail
          go_meet
          case rel => exact ⟨B, _, _, rfl, Lib.hid HXC.out, Lib.hid ((HG3.out.kept2 (w' := Xw) (fun g hg => by rw [HX.out]; exact heap_setCells_other _ _ _ _ _ (HNE.out g hg)))), Lib.hid (by rw [HX.out]; exact below_cells HBL.out _ _ _ HG0.out)⟩
      · go_wp2_with fail
        obtain ⟨U2, hU⟩ : ∃ X, U1.alloc (.cells #[.int .i64 0, .slice none 0 0, .int .i64 0, .string ⟨#[]⟩, .int .i64 0] 29) = X := ⟨_, rfl⟩
        have hb : Below U1.heap.size U1 U2 := by rw [← hU]; exact (Below.refl _ _).alloc (Nat.le_refl _) _
        have HZ : Hid (CellsAt U2 U1.heap.size zT) := Lib.hid (by rw [← hU]; exact CellsAt.new U1 29 zT)
        try rw [hU]
        clear hU
        obtain ⟨B, hB⟩ : ∃ B, U1.heap.size = B := ⟨_, rfl⟩
        have HBL : Hid (V.heap.size ≤ B) := Lib.hid (by rw [← hB]; exact HG0.out.size)
        rw [hB] at HZ
        try rw [hB]
        clear hB
        have HG0n := Lib.hid (chain HG0.out hb)
        clear HG0
        have HG0 := HG0n
        clear HG0n
        have HG2n := Lib.hid (HG2.out.below hb)
        clear HG2
        have HG2 := HG2n
        clear HG2n
        clear hb
        refine hK.out _ _ (HSI.out _ HG0.out) (fun hHeld2 => ?_)
        clear hK K
        try simp only [Act.put, List.getElem_toArray, List.getElem_cons_zero, List.getElem_cons_succ, List.setIfInBounds_toArray, List.set_cons_zero, List.set_cons_succ]
        refine wpAnyH_ready (rs := [4]) (by kernel_rfl) (by simp) ?_
        refine ready_one rfl rfl (fun K hK => ?_)
        go_simp
        refine (HFO U2 HG2.out).out.mono ?_
        rintro e U3 ⟨g, rfl, hm, hb⟩
        have HG2m := Lib.hid hm
        clear hm
        go_wp2_with fail
        have HG0n := Lib.hid (chain HG0.out hb)
        clear HG0
        have HG0 := HG0n
        clear HG0n
        clear HG2
        have HG2 := HG2m
        clear HG2m
        have HZn := Lib.hid (HZ.out.below hb)
        clear HZ
        have HZ := HZn
        clear HZn
        clear hb
        refine hK.out _ _ (HSI.out _ HG0.out) (fun hHeld3 => ?_)
        clear hK K
        try simp only [Act.put, List.getElem_toArray, List.getElem_cons_zero, List.getElem_cons_succ, List.setIfInBounds_toArray, List.set_cons_zero, List.set_cons_succ]
        refine wpAnyH_ready (rs := [5]) (by kernel_rfl) (by simp) ?_
        refine ready_one rfl rfl (fun K hK => ?_)
        go_simp
        refine (HTE g U3 HG2.out).out.mono ?_
        rintro e U4 ⟨v, rfl, hr, hb⟩
        obtain ⟨av, nv, cv, rfl⟩ := hr.isSlice
        have HNE : Hid (∀ g, (Value.slice av nv cv).ownBlock = some g → g ≠ B) := Lib.hid (fun g hg => by have h1 := (hr.lt g hg).1; have h2 := HZ.out.lt; omega)
        have HG3 : Hid (RowA U4 V.heap.size (.slice av nv cv) X.ad) := Lib.hid (hr.mono HG0.out.size)
        clear hr
        go_wp2_with fail
        have HG0n := Lib.hid (chain HG0.out hb)
        clear HG0
        have HG0 := HG0n
        clear HG0n
        have HG2n := Lib.hid (HG2.out.below hb)
        clear HG2
        have HG2 := HG2n
        clear HG2n
        have HZn := Lib.hid (HZ.out.below hb)
        clear HZ
        have HZ := HZn
        clear HZn
        clear hb
        refine hK.out _ _ (HSI.out _ HG0.out) (fun hHeld4 => ?_)
        clear hK K
        try simp only [Act.put, List.getElem_toArray, List.getElem_cons_zero, List.getElem_cons_succ, List.setIfInBounds_toArray, List.set_cons_zero, List.set_cons_succ]
        refine wpAnyH_ready (rs := [7]) (by kernel_rfl) (by simp) ?_
        refine ready_one rfl rfl (fun K hK => ?_)
        refine wp_store_of HZ rfl hsT _ _ rfl rfl rfl (vs := tldL X (.slice av nv cv)) rfl rfl rfl (fun Xw HX HXC => ?_)
        have HSX : Hid (S Xw) := Lib.hid (HSO.out _ HG0.out B HBL.out _ _ HX.out)
        refine hK.out _ _ HSX.out (fun hHeldX => ?_)
        clear hK K
        try simp only [Act.put, List.getElem_toArray, List.getElem_cons_zero, List.getElem_cons_succ, List.setIfInBounds_toArray, List.set_cons_zero, List.set_cons_succ]
        refine wpAnyH_done (by kernel_rfl) ?_ _
        refine NoPanic.normal ?_
        clear hHeld1 hHeld2 hHeld3 hHeld4 hHeldX
        go_wp2_with fail
        go_meet
        case rel => exact ⟨B, _, _, rfl, Lib.hid HXC.out, Lib.hid ((HG3.out.kept2 (w' := Xw) (fun g hg => by rw [HX.out]; exact heap_setCells_other _ _ _ _ _ (HNE.out g hg)))), Lib.hid (by rw [HX.out]; exact below_cells HBL.out _ _ _ HG0.out)⟩
    · go_wp2_with fail
      obtain ⟨U1, hU⟩ : ∃ X, V.alloc (.cells #[.int .i64 0, .slice none 0 0, .int .i64 0, .string ⟨#[]⟩, .int .i64 0] 29) = X := ⟨_, rfl⟩
      have hb : Below V.heap.size V U1 := by rw [← hU]; exact (Below.refl _ _).alloc (Nat.le_refl _) _
      have HZ : Hid (CellsAt U1 V.heap.size zT) := Lib.hid (by rw [← hU]; exact CellsAt.new V 29 zT)
      try rw [hU]
      clear hU
      obtain ⟨B, hB⟩ : ∃ B, V.heap.size = B := ⟨_, rfl⟩
      have HBL : Hid (V.heap.size ≤ B) := Lib.hid (by rw [← hB]; exact HG0.out.size)
      rw [hB] at HZ
      try rw [hB]
      clear hB
      have HG0n := Lib.hid (chain HG0.out hb)
      clear HG0
      have HG0 := HG0n
      clear HG0n
      have HG2n := Lib.hid (HG2.out.below hb)
      clear HG2
      have HG2 := HG2n
      clear HG2n
      clear hb
      refine hK.out _ _ (HSI.out _ HG0.out) (fun hHeld1 => ?_)
      clear hK K
      try simp only [Act.put, List.getElem_toArray, List.getElem_cons_zero, List.getElem_cons_succ, List.setIfInBounds_toArray, List.set_cons_zero, List.set_cons_succ]
      refine wpAnyH_ready (rs := [2]) (by kernel_rfl) (by simp) ?_
      refine ready_one rfl rfl (fun K hK => ?_)
      go_simp
      refine (HAS U1).out.mono ?_
      rintro e U2 ⟨rfl, hb⟩
      go_wp2_with fail
      have HG0n := Lib.hid (chain HG0.out hb)
      clear HG0
      have HG0 := HG0n
      clear HG0n
      have HG2n := Lib.hid (HG2.out.below hb)
      clear HG2
      have HG2 := HG2n
      clear HG2n
      have HZn := Lib.hid (HZ.out.below hb)
      clear HZ
      have HZ := HZn
      clear HZn
      clear hb
      refine hK.out _ _ (HSI.out _ HG0.out) (fun hHeld2 => ?_)
      clear hK K
      try simp only [Act.put, List.getElem_toArray, List.getElem_cons_zero, List.getElem_cons_succ, List.setIfInBounds_toArray, List.set_cons_zero, List.set_cons_succ]
      refine wpAnyH_ready (rs := [4]) (by kernel_rfl) (by simp) ?_
      refine ready_one rfl rfl (fun K hK => ?_)
      go_simp
      refine (HFO U2 HG2.out).out.mono ?_
      rintro e U3 ⟨g, rfl, hm, hb⟩
      have HG2m := Lib.hid hm
      clear hm
      go_wp2_with fail
      have HG0n := Lib.hid (chain HG0.out hb)
      clear HG0
      have HG0 := HG0n
      clear HG0n
      clear HG2
      have HG2 := HG2m
      clear HG2m
      have HZn := Lib.hid (HZ.out.below hb)
      clear HZ
      have HZ := HZn
      clear HZn
      clear hb
      refine hK.out _ _ (HSI.out _ HG0.out) (fun hHeld3 => ?_)
      clear hK K
      try simp only [Act.put, List.getElem_toArray, List.getElem_cons_zero, List.getElem_cons_succ, List.setIfInBounds_toArray, List.set_cons_zero, List.set_cons_succ]
      refine wpAnyH_ready (rs := [5]) (by kernel_rfl) (by simp) ?_
      refine ready_one rfl rfl (fun K hK => ?_)
      go_simp
      refine (HTE g U3 HG2.out).out.mono ?_
      rintro e U4 ⟨v, rfl, hr, hb⟩
      obtain ⟨av, nv, cv, rfl⟩ := hr.isSlice
      have HNE : Hid (∀ g, (Value.slice av nv cv).ownBlock = some g → g ≠ B) := Lib.hid (fun g hg => by have h1 := (hr.lt g hg).1; have h2 := HZ.out.lt; omega)
      have HG3 : Hid (RowA U4 V.heap.size (.slice av nv cv) X.ad) := Lib.hid (hr.mono HG0.out.size)
      clear hr
      go_wp2_with fail
      have HG0n := Lib.hid (chain HG0.out hb)
      clear HG0
      have HG0 := HG0n
      clear HG0n
      have HG2n := Lib.hid (HG2.out.below hb)
      clear HG2
      have HG2 := HG2n
      clear HG2n
      have HZn := Lib.hid (HZ.out.below hb)
      clear HZ
      have HZ := HZn
      clear HZn
      clear hb
      refine hK.out _ _ (HSI.out _ HG0.out) (fun hHeld4 => ?_)
      clear hK K
      try simp only [Act.put, List.getElem_toArray, List.getElem_cons_zero, List.getElem_cons_succ, List.setIfInBounds_toArray, List.set_cons_zero, List.set_cons_succ]
      refine wpAnyH_ready (rs := [7]) (by kernel_rfl) (by simp) ?_
      refine ready_one rfl rfl (fun K hK => ?_)
      refine wp_store_of HZ rfl hsT _ _ rfl rfl rfl (vs := tldL X (.slice av nv cv)) rfl rfl rfl (fun Xw HX HXC => ?_)
      have HSX : Hid (S Xw) := Lib.hid (HSO.out _ HG0.out B HBL.out _ _ HX.out)
      refine hK.out _ _ HSX.out (fun hHeldX => ?_)
      clear hK K
      try simp only [Act.put, List.getElem_toArray, List.getElem_cons_zero, List.getElem_cons_succ, List.setIfInBounds_toArray, List.set_cons_zero, List.set_cons_succ]
      refine wpAnyH_done (by kernel_rfl) ?_ _
      refine NoPanic.normal ?_
      clear hHeld1 hHeld2 hHeld3 hHeld4 hHeldX
      go_wp2_with fail
      go_meet
      case rel => exact ⟨B, _, _, rfl, Lib.hid HXC.out, Lib.hid ((HG3.out.kept2 (w' := Xw) (fun g hg => by rw [HX.out]; exact heap_setCells_other _ _ _ _ _ (HNE.out g hg)))), Lib.hid (by rw [HX.out]; exact below_cells HBL.out _ _ _ HG0.out)⟩
  case rest =>
    obtain ⟨B1, v1, Bt1, rfl, HT1, HRo1, HBl1⟩ := hcut
    have HQ4 := Lib.hid ((HQ.out.below (Below.refl _ _).drew).below HBl1.out)
    have HA4 := Lib.hid ((HA2.out.below (Below.refl _ _).drew).below HBl1.out)
    have HB4 : Hid (Below w.heap.size w wc) := Lib.hid (HB0.out.drew.trans (HBl1.out.mono (by have := HB0.out.size; exact this)))
    clear HQ HA2 HB0 HBl1 HFO HTE HA
    generalize wc = wA at *
    have q1 := HQ4.out.cell 1 _ rfl
    go_wp2_with fail
    refine (HCH wA HB4.out).out.mono ?_
    rintro e w5 ⟨vx, rfl, hrx, hb5⟩
    have HRX := Lib.hid hrx
    have HQ5 := Lib.hid (HQ4.out.below hb5)
    have HA5 := Lib.hid (HA4.out.below hb5)
    have HB5 := Lib.hid (chain HB4.out hb5)
    have HT5 := Lib.hid (HT1.out.below hb5)
    have HRo5 := Lib.hid (HRo1.out.below hb5)
    clear hrx hb5 q1 HQ4 HA4 HB4 HT1 HRo1 HCH
    have hpos : 0 < xs.length := by obtain ⟨l, e, _⟩ := HCP.out; rw [e]; simp
    obtain ⟨g1, c1, rfl, _, _⟩ := HRX.out.form hpos
    have HCE := Lib.hid (own_cells HRX.out)
    have HXL : Hid (xs.length ≤ 21) := Lib.hid (by obtain ⟨l, e, h⟩ := HCP.out; rw [e]; simp; omega)
    obtain ⟨KX, hKX⟩ : ∃ KX, xs.length = KX := ⟨_, rfl⟩
    have HKX := Lib.hid hKX
    simp only [hKX] at HXL hpos ⊢
    clear hKX HRX HCP
    go_wp2_with fail
    go_loopw [13, 14] (fun s13 s14 wr => ∃ (k M : Nat), k ≤ KX ∧ s14 = .int .i64 (k : Int) ∧ s13 = .int .i64 (M : Int) ∧ Hid (M ≤ 1048576 ∧ ∀ p ∈ xs.take k, p.size ≤ M) ∧ Hid (w5 = wr)) (fun _ i _ => KX - (intOf i).toNat)
    case atStart => exact ⟨0, 0, Nat.zero_le _, rfl, rfl, Lib.hid ⟨Nat.zero_le _, fun p hp => by simp at hp⟩, Lib.hid (by first | trivial | rfl)⟩
    case round =>
      obtain ⟨k, M, hk, rfl, rfl, HM, HWR⟩ := hrel
      have hwr := HWR.out
      subst hwr
      clear HWR
      by_cases hkN : k < KX
      · have hd : decide ((k : Int) < (KX : Int)) = true := decide_eq_true (by omega)
        have hdn : decide (k < KX) = true := decide_eq_true hkN
        have hxl := HXL.out
        have hwb : IntKind.i64.wrap ((k : Int) + 1) = (k : Int) + 1 := by rw [IntKind.wrap_i64]; omega
        have hkx : k < xs.length := by have := HKX.out; omega
        have ck := HCE.out k hkx
        have HTK : Hid (xs.take (k + 1) = xs.take k ++ [xs[k]]) := Lib.hid (List.take_succ_eq_append_getElem hkx)
        have HPB := Lib.hid (HCB.out _ (List.getElem_mem hkx))
        generalize xs[k] = p at *
        have hmx : max (M : Int) (p.size : Int) = ((max M p.size : Nat) : Int) := by omega
        have hb1 : (0 : Int) ≤ (k : Int) := by omega
        have hb2 : (k : Int) < (KX : Int) := by omega
        go_wp2_with (refine max_step rfl _ _ rfl rfl rfl ?_; rw [hmx])
        go_roundw
        case rel =>
          refine ⟨k + 1, max M p.size, by omega, by go_num, rfl, Lib.hid ⟨by have h1 := HM.out.1; have h2 := HPB.out; omega, fun y hy => ?_⟩, Lib.hid (by first | trivial | rfl)⟩
          rw [HTK.out] at hy
          rcases List.mem_append.1 hy with hy | hy
          · have := HM.out.2 y hy; omega
          · rw [List.mem_singleton.1 hy]; omega
        case measure => simp [intOf]; omega
      · obtain rfl : k = KX := by omega
        have hd : decide ((k : Int) < (k : Int)) = false := by simp
        have HXM : Hid (∀ p ∈ xs, p.size ≤ M) := Lib.hid (fun p hp => HM.out.2 p (by rw [List.take_of_length_le (by have := HKX.out; omega)]; exact hp))
        have HMM := Lib.hid HM.out.1
        clear HM HCE HXL HKX HCB hpos
        go_wp2_with fail
        go_loopw [15, 16] (fun s15 s16 wr => ∃ (k : Nat) (T : List Rec) (vv : Value), vv = s15 ∧ k ≤ len2 ∧ k ≤ 5 ∧ s16 = .int .i64 (k : Int) ∧ Hid (RowR wr w5.heap.size vv T) ∧ Hid (T.length = k) ∧ Hid (Far M T) ∧ Hid (Below w5.heap.size w5 wr)) (fun _ i _ => 5 - (intOf i).toNat)
        case atStart => exact ⟨0, [], _, rfl, Nat.zero_le _, Nat.zero_le _, rfl, Lib.hid (RowR.nil _ _), Lib.hid (by first | rfl | trivial), Lib.hid (fun r hr => by cases hr), Lib.hid (Below.refl _ _)⟩
        case round =>
          obtain ⟨j, T, vv, evv, hj2, hj5, rfl, HR, HTL, HFA, HB⟩ := hrel
          subst evv
          by_cases hj : j < len2 ∧ j < 5
          · obtain ⟨hjl, hjf⟩ := hj
            have hd1 : decide ((j : Int) < (len2 : Int)) = true := decide_eq_true (by omega)
            have hd1n : decide (j < len2) = true := decide_eq_true hjl
            have hd2 : decide ((j : Int) < 5) = true := decide_eq_true (by omega)
            have hd2n : decide (j < 5) = true := decide_eq_true hjf
            have hwb : IntKind.i64.wrap ((j : Int) + 1) = (j : Int) + 1 := by rw [IntKind.wrap_i64]; omega
            have hjD : j < D2.length := by have := HOL.out; omega
            obtain ⟨g, o, ha, hg, hrg⟩ := ((HO.out.below HB5.out).below HB.out).at j hjD
            subst ha
            have HRG := Lib.hid hrg
            have HFIT := Lib.hid (HO.out.2.2.1 _ (List.getElem_mem hjD))
            have HRM := Lib.hid (HOR.out _ (List.getElem_mem hjD))
            generalize D2[j] = r at *
            have H16 := Lib.hid HFIT.out.1
            have hb1 : (0 : Int) ≤ (j : Int) := by omega
            have hb2 : (j : Int) < (len2 : Int) := by omega
            have HZ := Lib.hid (rec_zeroed wr)
            clear hrg hg
            go_wp2_with (first | refine load_rec H16 HRG _ rfl rfl rfl ?_ | refine store_rec HZ _ _ H16 rfl rfl rfl rfl (fun W1 HW1 HE1 => ?_))
            have hb5 := below_newR HW1
            have HB6 := Lib.hid (chain HB.out hb5)
            have HR6 := Lib.hid (HR.out.below hb5)
            have HLP : Hid (w5.heap.size ≤ wr.heap.size) := Lib.hid HB.out.size
            have HNE : Hid (∀ x, vv.ownBlock = some x → x < wr.heap.size) := Lib.hid (fun x hx => (HR.out.1.lt x hx).2)
            obtain ⟨P, hP⟩ : ∃ P, wr.heap.size = P := ⟨_, rfl⟩
            rw [hP] at HE1 HLP HNE
            try rw [hP]
            clear hb5 HZ HRG HW1 hP HB HR
            try simp only [Act.put, List.getElem_toArray, List.getElem_cons_zero, List.getElem_cons_succ, List.setIfInBounds_toArray, List.set_cons_zero, List.set_cons_succ]
            go_loopw [65] (fun _ wx => ∃ nm2 : ByteArray, Hid (RecAt wx P { r with name := nm2 }) ∧ Hid (nm2.size ≤ 1048584) ∧ Hid (RowR wx w5.heap.size vv T) ∧ Hid (Below w5.heap.size w5 wx)) (fun _ wx => match wx.cell? ⟨P, 0, none⟩ with | some (.string s) => 2000000 - s.size | _ => 0)
            case atStart => exact ⟨r.name, Lib.hid HE1.out, Lib.hid (Nat.le_trans HRM.out.1 (by decide)), HR6, HB6⟩
            case round =>
              obtain ⟨nm2, HE, HS2, HRr, HBr⟩ := hrel
              have r0 := HE.out.cell 0 _ rfl
              have hs2 := HS2.out
              have hmm := HMM.out
              by_cases hle : nm2.size ≤ M
              · have hd : decide ((nm2.size : Int) ≤ (M : Int)) = true := decide_eq_true (by omega)
                have hdn : decide (nm2.size ≤ M) = true := decide_eq_true hle
                have hno : ¬ (9223372036854775807 < nm2.size + 8) := by omega
                have f0 := HE.out.live 0 (by decide)
                have hz8 : (nm2 ++ ⟨#[120, 120, 120, 120, 120, 120, 120, 120]⟩ : ByteArray).size = nm2.size + 8 := by rw [ByteArray.size_append]; rfl
                go_wp2_with fail
                have HE2 : Hid (RecAt (wr.setCell ⟨P, 0, none⟩ (.string (nm2 ++ ⟨#[120, 120, 120, 120, 120, 120, 120, 120]⟩))) P { r with name := nm2 ++ ⟨#[120, 120, 120, 120, 120, 120, 120, 120]⟩ }) := Lib.hid (HE.out.set 0 _ { r with name := nm2 ++ ⟨#[120, 120, 120, 120, 120, 120, 120, 120]⟩ } H16.out (by decide) rfl)
                have n0 := HE2.out.cell 0 _ rfl
                go_roundw
                case rel => exact ⟨_, HE2, Lib.hid (by omega), Lib.hid (HRr.out.kept2 (fun x hx => heap_setCell_otherM _ _ _ _ _ (Nat.ne_of_lt (HNE.out x hx)))), Lib.hid (HBr.out.setCell HLP.out _)⟩
                case measure =>
                  simp only [n0, r0]
                  show 2000000 - (nm2 ++ ⟨#[120, 120, 120, 120, 120, 120, 120, 120]⟩ : ByteArray).size < 2000000 - nm2.size
                  omega
              · have hd : decide ((nm2.size : Int) ≤ (M : Int)) = false := decide_eq_false (by omega)
                have hdn : decide (nm2.size ≤ M) = false := decide_eq_false hle
                have HS3 := Lib.hid HBr.out.size
                have HFR : Hid (M < nm2.size ∧ nm2.size ≤ 2000000 ∧ r.tg.size ≤ 2000000 ∧ Fit { r with name := nm2 }) := Lib.hid (by
                  have h := HFIT.out
                  exact ⟨by omega, by omega, Nat.le_trans HRM.out.2.1 (by decide), h.1, h.2.1, h.2.2.1, h.2.2.2.1, h.2.2.2.2.1, h.2.2.2.2.2.1, by show nm2.size ≤ maxLen; unfold maxLen; omega, h.2.2.2.2.2.2.2.1, h.2.2.2.2.2.2.2.2⟩)
                obtain ⟨r', hr'⟩ : ∃ r' : Rec, { r with name := nm2 } = r' := ⟨_, rfl⟩
                have HFA2 : Hid (Far M (T ++ [r'])) := Lib.hid (HFA.out.snoc (by rw [← hr']; exact HFR.out))
                have HU16 : Hid (r'.b.length = 16) := Lib.hid (by rw [← hr']; exact H16.out)
                rw [hr'] at HE
                clear hr' HFR HFIT HRM HE1 HR6 HB6
                have HM1 : Hid (1 = [r'].length) := Lib.hid rfl
                have HY : Hid (All16 [r']) := Lib.hid (fun x hx => by rw [List.mem_singleton.1 hx]; exact HU16.out)
                have HLE2 : Hid (T.length + [r'].length ≤ 100000) := Lib.hid (by have := HTL.out; simp; omega)
                have HFW2 : Hid (∀ W5, W5 = wr.alloc (.cells (recL r').toArray 44) → Below wr.heap.size wr W5 ∧ W5.rangeAt wr.heap.size 0 (flatR [r']) ∧ w5.heap.size ≤ W5.heap.size) := Lib.hid (fun W5 e => by
                  have hb : Below wr.heap.size wr W5 := by rw [e]; exact (Below.refl _ _).alloc (Nat.le_refl _) _
                  exact ⟨hb, by rw [e]; exact rec_range _ _, Nat.le_trans HS3.out hb.size⟩)
                go_wp2_with (first
                  | refine load_recAt HE _ rfl rfl rfl ?_
                  | (refine build_recS (r := r') HU16 rfl _ rfl rfl (fun W5 HW5 => ?_); obtain ⟨hb5, hr5, hs5⟩ := HFW2.out W5 HW5.out; have HB7 := Lib.hid hb5; have HO5 := Lib.hid (HRr.out.below hb5); have HRX := Lib.hid hr5; have HS5 := Lib.hid hs5; clear hb5 hr5 hs5)
                  | (at_builtin; refine append_recs HO5 _ _ rfl rfl rfl [r'] rfl HM1 HRX HY HLE2 HS5 (fun v6 w6 HO6 HG6 HA6 => ?_)))
                have HB8 : Hid (Below w5.heap.size w5 w6) := Lib.hid ((HBr.out.trans (HB7.out.mono HS3.out)).grown HG6.out HS5.out (fun y hy => (HO5.out.1.lt y hy).1))
                have HTL2 : Hid ((T ++ [r']).length = j + 1) := Lib.hid (by have := HTL.out; simp; omega)
                clear HFW2 HG6 HA6 HO5 HRX HB7 HW5 HBr HRr
                go_roundw
                case rel => exact ⟨j + 1, _, _, rfl, by omega, by omega, by go_num, HO6, HTL2, HFA2, HB8⟩
                case measure => simp [intOf]; omega
          · have hor : len2 ≤ j ∨ (j < len2 ∧ 5 ≤ j) := by omega
            have HT6 := Lib.hid (HT5.out.below HB.out)
            have HRo6 := Lib.hid (HRo5.out.below HB.out)
            have HQ6 := Lib.hid (HQ5.out.below HB.out)
            have HA6 := Lib.hid (HA5.out.below HB.out)
            have HB6 := Lib.hid (chain HB5.out HB.out)
            obtain ⟨am, cm, rfl, hrm⟩ := HR.out.recs (fun r hr => (HFA.out r hr).2.2.2)
            have HTM := Lib.hid hrm
            clear hrm HR HB HT5 HRo5 HQ5 HA5 HB5 hj HO HOL HOR
            rcases hor with hor | ⟨hor, hor2⟩
            · have hd1 : decide ((j : Int) < (len2 : Int)) = false := decide_eq_false (by omega)
              have hd1n : decide (j < len2) = false := decide_eq_false (by omega)
              have hle := HLE.out
              have hNL := HN.out
              have hwn : IntKind.i64.wrap ((N : Int) + 1) = (N : Int) + 1 := by rw [IntKind.wrap_i64]; omega
              have HAR : ∀ W, Hid (Calls Try.prog 11 #[.int .i64 z, .int .i64 ((N : Int) + 1)] W fun e w' => e = .returned (.int .i64 ((aroundN z (N + 1) : Nat) : Int)) ∧ W = w') := fun W => Lib.hid (by
                have h := around_any z (N + 1) W HW3.out (by omega) (by omega)
                exact h)
              have hK := aroundN_lt z (N + 1) (by omega)
              generalize aroundN z (N + 1) = k2 at *
              go_upto_region 18 with fail
              refine (HAR wr).out.mono ?_
              rintro e wq ⟨rfl, hwq⟩
              obtain rfl : wr = wq := hwq
              clear HAR hwn
              have hc1 : N ≤ cap := by have := HA6.out.1; omega
              go_upto_region 19 with fail
              have hs1 := run_slice_toR a cap N k2 (by omega) wr
              have HP1 := Lib.hid (HA6.out.takeR k2)
              generalize (if cap = 0 then a else a.map (fun x => x.add (0 * 23))) = ad1 at hs1 HP1
              have HE1 : Hid (RowR wr wr.heap.size (.slice none 0 0) []) := Lib.hid (RowR.nil _ _)
              have HM1 : Hid (k2 = (L.take k2).length) := Lib.hid (by rw [List.length_take]; omega)
              have HY1 : Hid (All16 (L.take k2)) := Lib.hid (fun r hr => (HA6.out.2.2.1 r (List.mem_of_mem_take hr)).1)
              have HL1 : Hid (([] : List Rec).length + (L.take k2).length ≤ 100000) := Lib.hid (by rw [← HM1.out]; simp; omega)
              have HS1 : Hid (wr.heap.size ≤ wr.heap.size) := Lib.hid (Nat.le_refl _)
              go_upto_region 20 with (at_builtin; refine append_recsG HE1 _ _ rfl rfl rfl (L.take k2) rfl HM1 HP1 HY1 HL1 HS1 (fun v6 w6 HO6 HG6 => ?_))
              have HB61 : Hid (Below wr.heap.size wr w6) := Lib.hid ((Below.refl _ _).grown HG6.out (Nat.le_refl _) (fun y hy => (HE1.out.1.lt y hy).1))
              have HP2 : Hid (RecsR w6 am T) := Lib.hid (RecsR.below (by
                rcases HTM.out.2.2.2 with h4 | ⟨g, o, e, hg, hr⟩
                · exact .inl (List.eq_nil_of_length_eq_zero h4)
                · exact .inr ⟨g, o, e, hg, hr⟩) HB61.out)
              have HY2 : Hid (All16 T) := Lib.hid (fun r hr => (HTM.out.2.2.1 r hr).1)
              have HL2 : Hid (([] ++ L.take k2 : List Rec).length + T.length ≤ 100000) := Lib.hid (by have h1 := HTL.out; have h2 := HM1.out; rw [List.nil_append, ← h2]; omega)
              have HS2 : Hid (wr.heap.size ≤ w6.heap.size) := Lib.hid HB61.out.size
              have HM2 : Hid (T.length = T.length) := Lib.hid rfl
              clear HG6 hs1 HP1 HE1
              go_upto_region 21 with (at_builtin; refine append_recsG HO6 _ _ rfl rfl rfl T rfl HM2 HP2 HY2 HL2 HS2 (fun v7 w7 HO7 HG7 => ?_))
              have HB7 : Hid (Below wr.heap.size wr w7) := Lib.hid (HB61.out.grown HG7.out HS2.out (fun y hy => (HO6.out.1.lt y hy).1))
              have hs3 := run_slice_fromR a cap N k2 (by omega) hc1 w7
              have HP3 := Lib.hid ((HA6.out.below HB7.out).dropR k2 (by omega))
              generalize (if cap = k2 then a else a.map (fun x => x.add (k2 * 23))) = ad3 at hs3 HP3
              have HM3 : Hid (N - k2 = (L.drop k2).length) := Lib.hid (by rw [List.length_drop]; omega)
              have HY3 : Hid (All16 (L.drop k2)) := Lib.hid (fun r hr => (HA6.out.2.2.1 r (List.mem_of_mem_drop hr)).1)
              have HL3 : Hid ((([] ++ L.take k2) ++ T : List Rec).length + (L.drop k2).length ≤ 100000) := Lib.hid (by have h1 := HTL.out; have h2 := HM1.out; have h3 := HM3.out; rw [List.nil_append, List.length_append, ← h2, ← h3]; omega)
              have HS3 : Hid (wr.heap.size ≤ w7.heap.size) := Lib.hid HB7.out.size
              clear HG7 HO6 HP2 HB61
              go_upto_region 22 with (at_builtin; refine append_recsG HO7 _ _ rfl rfl rfl (L.drop k2) rfl HM3 HP3 HY3 HL3 HS3 (fun v8 w8 HO8 HG8 => ?_))
              have HB8 : Hid (Below wr.heap.size wr w8) := Lib.hid (HB7.out.grown HG8.out HS3.out (fun y hy => (HO7.out.1.lt y hy).1))
              obtain ⟨ag, cg, rfl, hrg⟩ := HO8.out.recs (cut_fit HA6.out.2.2.1 HFA.out)
              have HG9 := Lib.hid hrg
              have HAE := Lib.hid (cut_all (k := k2) HALL.out HFA.out)
              have HLN := Lib.hid (cut_len (T := T) (show k2 ≤ L.length by omega))
              have HTX : Hid (tellP 33152 nm ty (([] ++ L.take k2 ++ T) ++ L.drop k2) = X) := Lib.hid (by rw [cut_told HFA.out (by rw [HCX.out]; exact HXM.out)]; exact HX.out)
              clear hrg HG8 HO7 HO8 HB7 HP3 hs3 HY1 HY2 HY3 HL1 HL2 HL3 HM1 HM2 HM3
              generalize (([] ++ L.take k2 ++ T) ++ L.drop k2) = E at *
              obtain ⟨NE, hNE⟩ : ∃ NE, E.length = NE := ⟨_, rfl⟩
              have hNE9 : NE ≤ 900 := by have h1 := HLN.out; have h2 := HTL.out; omega
              have HFG := HFG0 ag cg E NE hNE
              have HTG := HTG0 ag cg E NE hNE HAE.out hNE9
              simp only [HTX.out] at HTG
              simp only [hNE]
              have HT9 := Lib.hid (HT6.out.below HB8.out)
              have HRo9 := Lib.hid (HRo6.out.below HB8.out)
              have HQ9 := Lib.hid (HQ6.out.below HB8.out)
              have HB9 := Lib.hid (chain HB6.out HB8.out)
              clear HFG0 HTG0 hNE hNE9 HLN HAE HTX HX HCX HXM HT6 HRo6 HQ6 HB6 HB8 HA6 HTM HTL HFA HALL HLE HN hle hNL
              go_cut [20] from 21 (fun s wx => ∃ (B : Nat) (v : Value) (Bt : Nat), s = .pointer (some ⟨B, 0, none⟩) ∧ Hid (CellsAt wx B (tldL X v)) ∧ Hid (RowA wx Bt v X.ad) ∧ Hid (Below w8.drew.heap.size w8.drew wx))
              case first =>
                have hsT : (Try.prog.info? 29).map (·.size) = some 5 := by kernel_rfl
                have hsQ : (Try.prog.info? 23).map (·.size) = some ([.int .i64 id, .string nm, .int .i64 ty, .int .i64 sv] : List Value).length := by kernel_rfl
                have HQd := Lib.hid (HQ9.out.below (Below.refl _ _).drew)
                have HG2 := Lib.hid (HG9.out.below (Below.refl _ _).drew)
                obtain ⟨S, hS⟩ : ∃ S : World → Prop, (fun U => U.rangeAt w.heap.size 0 [.int .i64 id, .string nm, .int .i64 ty, .int .i64 sv]) = S := ⟨_, rfl⟩
                have C1 : Hid (∀ w', S w' → w'.rangeAt w.heap.size 0 [.int .i64 id, .string nm, .int .i64 ty, .int .i64 sv]) := Lib.hid (fun w' h => by rw [← hS] at h; exact h)
                have HSI : Hid (∀ U, Below w8.drew.heap.size w8.drew U → S U) := Lib.hid (fun U h => by rw [← hS]; exact (HQd.out.below h).range)
                have HSO : Hid (∀ U, Below w8.drew.heap.size w8.drew U → ∀ B, w8.drew.heap.size ≤ B → ∀ vs X, X = U.setCells B 0 vs → S X) := Lib.hid (fun U h B hB vs X e => by
                  have h1 := HQd.out.lt
                  rw [← hS, e]
                  exact ((HQd.out.below h).apart (by omega) _).range)
                clear hS
                refine wp_region_noPanic ?_
                refine wp_region_held_drew (S := S) (by kernel_rfl) (HSI.out _ (Below.refl _ _)) (fun hHeld => ?_)
                generalize w8.drew = V at *
                have HG0 : Hid (Below V.heap.size V V) := Lib.hid (Below.refl _ _)
                refine wpAnyH_take (i := 0) rfl (by kernel_rfl) (by kernel_rfl) (by kernel_rfl) (fun _ _ _ h => h) (yields_row C1 Try.underlying23 rfl hsQ (by rfl) _ rfl rfl) (by assumption) ?_
                try simp only [Act.put, List.getElem_toArray, List.getElem_cons_zero, List.setIfInBounds_toArray, List.set_cons_zero, List.set_cons_succ]
                refine wpAnyH_take (i := 1) rfl (by kernel_rfl) (by kernel_rfl) (by kernel_rfl) (fun _ _ _ h => h) (yields_row C1 Try.underlying23 rfl hsQ (by rfl) _ rfl rfl) (by assumption) ?_
                try simp only [Act.put, List.getElem_toArray, List.getElem_cons_zero, List.getElem_cons_succ, List.setIfInBounds_toArray, List.set_cons_zero, List.set_cons_succ]
                refine wpAnyH_take (i := 3) (v := ?_) rfl (by kernel_rfl) (by kernel_rfl) (by kernel_rfl) (fun _ _ _ h => h) (Or.inl ⟨by rfl, ?_⟩) (by assumption) ?_
                rotate_left
                · (intro w hSw; go_simp; try (with_reducible rfl))
                try simp only [Act.put, List.getElem_toArray, List.getElem_cons_zero, List.getElem_cons_succ, List.setIfInBounds_toArray, List.set_cons_zero, List.set_cons_succ]
                clear hsQ C1 hHeld
                obtain ⟨U0, hU0⟩ : ∃ U0, V = U0 := ⟨V, rfl⟩
                clear U0 hU0
                refine wpAnyH_ready (rs := [2, 6]) (by kernel_rfl) (by simp) ?_
                refine AllReadyH.cons rfl (fun K hK => ?_) (ready_one rfl rfl (fun K hK => ?_))
                · rw [if_pos (by rfl)]
                  go_simp
                  refine (HAS V).out.mono ?_
                  rintro e U1 ⟨rfl, hb⟩
                  go_wp2_with fail
                  have HG0n := Lib.hid (chain HG0.out hb)
                  clear HG0
                  have HG0 := HG0n
                  clear HG0n
                  have HG2n := Lib.hid (HG2.out.below hb)
                  clear HG2
                  have HG2 := HG2n
                  clear HG2n
                  clear hb
                  refine hK.out _ _ (HSI.out _ HG0.out) (fun hHeld1 => ?_)
                  clear hK K
                  try simp only [Act.put, List.getElem_toArray, List.getElem_cons_zero, List.getElem_cons_succ, List.setIfInBounds_toArray, List.set_cons_zero, List.set_cons_succ]
                  refine wpAnyH_ready (rs := [4, 6]) (by kernel_rfl) (by simp) ?_
                  refine AllReadyH.cons rfl (fun K hK => ?_) (ready_one rfl rfl (fun K hK => ?_))
                  · rw [if_pos (by rfl)]
                    go_simp
                    refine (HFG U1 HG2.out).out.mono ?_
                    rintro e U2 ⟨g, rfl, hm, hb⟩
                    have HG2m := Lib.hid hm
                    clear hm
                    go_wp2_with fail
                    have HG0n := Lib.hid (chain HG0.out hb)
                    clear HG0
                    have HG0 := HG0n
                    clear HG0n
                    clear HG2
                    have HG2 := HG2m
                    clear HG2m
                    clear hb
                    refine hK.out _ _ (HSI.out _ HG0.out) (fun hHeld2 => ?_)
                    clear hK K
                    try simp only [Act.put, List.getElem_toArray, List.getElem_cons_zero, List.getElem_cons_succ, List.setIfInBounds_toArray, List.set_cons_zero, List.set_cons_succ]
                    refine wpAnyH_ready (rs := [5, 6]) (by kernel_rfl) (by simp) ?_
                    refine AllReadyH.cons rfl (fun K hK => ?_) (ready_one rfl rfl (fun K hK => ?_))
                    · rw [if_pos (by rfl)]
                      go_simp
                      refine (HTG g U2 HG2.out).out.mono ?_
                      rintro e U3 ⟨v, rfl, hr, hb⟩
                      obtain ⟨av, nv, cv, rfl⟩ := hr.isSlice
                      have HG3 : Hid (RowA U3 V.heap.size (.slice av nv cv) X.ad) := Lib.hid (hr.mono HG0.out.size)
                      clear hr
                      go_wp2_with fail
                      have HG0n := Lib.hid (chain HG0.out hb)
                      clear HG0
                      have HG0 := HG0n
                      clear HG0n
                      have HG2n := Lib.hid (HG2.out.below hb)
                      clear HG2
                      have HG2 := HG2n
                      clear HG2n
                      clear hb
                      refine hK.out _ _ (HSI.out _ HG0.out) (fun hHeld3 => ?_)
                      clear hK K
                      try simp only [Act.put, List.getElem_toArray, List.getElem_cons_zero, List.getElem_cons_succ, List.setIfInBounds_toArray, List.set_cons_zero, List.set_cons_succ]
                      refine wpAnyH_ready (rs := [6]) (by kernel_rfl) (by simp) ?_
                      refine ready_one rfl rfl (fun K hK => ?_)
                      go_wp2_with fail
                      obtain ⟨U4, hU⟩ : ∃ X, U3.alloc (.cells #[.int .i64 0, .slice none 0 0, .int .i64 0, .string ⟨#[]⟩, .int .i64 0] 29) = X := ⟨_, rfl⟩
                      have hb : Below U3.heap.size U3 U4 := by rw [← hU]; exact (Below.refl _ _).alloc (Nat.le_refl _) _
                      have HZ : Hid (CellsAt U4 U3.heap.size zT) := Lib.hid (by rw [← hU]; exact CellsAt.new U3 29 zT)
                      try rw [hU]
                      clear hU
                      obtain ⟨B, hB⟩ : ∃ B, U3.heap.size = B := ⟨_, rfl⟩
                      have HBL : Hid (V.heap.size ≤ B) := Lib.hid (by rw [← hB]; exact HG0.out.size)
                      have HNE : Hid (∀ g, (Value.slice av nv cv).ownBlock = some g → g ≠ B) := Lib.hid (fun g hg => by rw [← hB]; exact Nat.ne_of_lt (HG3.out.lt g hg).2)
                      rw [hB] at HZ
                      try rw [hB]
                      clear hB
                      have HG0n := Lib.hid (chain HG0.out hb)
                      clear HG0
                      have HG0 := HG0n
                      clear HG0n
                      have HG2n := Lib.hid (HG2.out.below hb)
                      clear HG2
                      have HG2 := HG2n
                      clear HG2n
                      have HG3n := Lib.hid (HG3.out.below hb)
                      clear HG3
                      have HG3 := HG3n
                      clear HG3n
                      clear hb
                      refine hK.out _ _ (HSI.out _ HG0.out) (fun hHeld4 => ?_)
                      clear hK K
                      try simp only [Act.put, List.getElem_toArray, List.getElem_cons_zero, List.getElem_cons_succ, List.setIfInBounds_toArray, List.set_cons_zero, List.set_cons_succ]
                      refine wpAnyH_ready (rs := [7]) (by kernel_rfl) (by simp) ?_
                      refine ready_one rfl rfl (fun K hK => ?_)
                      refine wp_store_of HZ rfl hsT _ _ rfl rfl rfl (vs := tldL X (.slice av nv cv)) rfl rfl rfl (fun Xw HX HXC => ?_)
                      have HSX : Hid (S Xw) := Lib.hid (HSO.out _ HG0.out B HBL.out _ _ HX.out)
                      refine hK.out _ _ HSX.out (fun hHeldX => ?_)
                      clear hK K
                      try simp only [Act.put, List.getElem_toArray, List.getElem_cons_zero, List.getElem_cons_succ, List.setIfInBounds_toArray, List.set_cons_zero, List.set_cons_succ]
                      refine wpAnyH_done (by kernel_rfl) ?_ _
                      refine NoPanic.normal ?_
                      clear hHeld1 hHeld2 hHeld3 hHeld4 hHeldX
                      go_wp2_with fail
                      go_meet
                      case rel => exact ⟨B, _, _, rfl, Lib.hid HXC.out, Lib.hid ((HG3.out.kept2 (w' := Xw) (fun g hg => by rw [HX.out]; exact heap_setCells_other _ _ _ _ _ (HNE.out g hg)))), Lib.hid (by rw [HX.out]; exact below_cells HBL.out _ _ _ HG0.out)⟩
                    · go_wp2_with fail
                      obtain ⟨U3, hU⟩ : ∃ X, U2.alloc (.cells #[.int .i64 0, .slice none 0 0, .int .i64 0, .string ⟨#[]⟩, .int .i64 0] 29) = X := ⟨_, rfl⟩
                      have hb : Below U2.heap.size U2 U3 := by rw [← hU]; exact (Below.refl _ _).alloc (Nat.le_refl _) _
                      have HZ : Hid (CellsAt U3 U2.heap.size zT) := Lib.hid (by rw [← hU]; exact CellsAt.new U2 29 zT)
                      try rw [hU]
                      clear hU
                      obtain ⟨B, hB⟩ : ∃ B, U2.heap.size = B := ⟨_, rfl⟩
                      have HBL : Hid (V.heap.size ≤ B) := Lib.hid (by rw [← hB]; exact HG0.out.size)
                      rw [hB] at HZ
                      try rw [hB]
                      clear hB
                      have HG0n := Lib.hid (chain HG0.out hb)
                      clear HG0
                      have HG0 := HG0n
                      clear HG0n
                      have HG2n := Lib.hid (HG2.out.below hb)
                      clear HG2
                      have HG2 := HG2n
                      clear HG2n
                      clear hb
                      refine hK.out _ _ (HSI.out _ HG0.out) (fun hHeld3 => ?_)
                      clear hK K
                      try simp only [Act.put, List.getElem_toArray, List.getElem_cons_zero, List.getElem_cons_succ, List.setIfInBounds_toArray, List.set_cons_zero, List.set_cons_succ]
                      refine wpAnyH_ready (rs := [5]) (by kernel_rfl) (by simp) ?_
                      refine ready_one rfl rfl (fun K hK => ?_)
                      go_simp
                      refine (HTG g U3 HG2.out).out.mono ?_
                      rintro e U4 ⟨v, rfl, hr, hb⟩
                      obtain ⟨av, nv, cv, rfl⟩ := hr.isSlice
                      have HNE : Hid (∀ g, (Value.slice av nv cv).ownBlock = some g → g ≠ B) := Lib.hid (fun g hg => by have h1 := (hr.lt g hg).1; have h2 := HZ.out.lt; omega)
                      have HG3 : Hid (RowA U4 V.heap.size (.slice av nv cv) X.ad) := Lib.hid (hr.mono HG0.out.size)
                      clear hr
                      go_wp2_with fail
                      have HG0n := Lib.hid (chain HG0.out hb)
                      clear HG0
                      have HG0 := HG0n
                      clear HG0n
                      have HG2n := Lib.hid (HG2.out.below hb)
                      clear HG2
                      have HG2 := HG2n
                      clear HG2n
                      have HZn := Lib.hid (HZ.out.below hb)
                      clear HZ
                      have HZ := HZn
                      clear HZn
                      clear hb
                      refine hK.out _ _ (HSI.out _ HG0.out) (fun hHeld4 => ?_)
                      clear hK K
                      try simp only [Act.put, List.getElem_toArray, List.getElem_cons_zero, List.getElem_cons_succ, List.setIfInBounds_toArray, List.set_cons_zero, List.set_cons_succ]
                      refine wpAnyH_ready (rs := [7]) (by kernel_rfl) (by simp) ?_
                      refine ready_one rfl rfl (fun K hK => ?_)
                      refine wp_store_of HZ rfl hsT _ _ rfl rfl rfl (vs := tldL X (.slice av nv cv)) rfl rfl rfl (fun Xw HX HXC => ?_)
                      have HSX : Hid (S Xw) := Lib.hid (HSO.out _ HG0.out B HBL.out _ _ HX.out)
                      refine hK.out _ _ HSX.out (fun hHeldX => ?_)
                      clear hK K
                      try simp only [Act.put, List.getElem_toArray, List.getElem_cons_zero, List.getElem_cons_succ, List.setIfInBounds_toArray, List.set_cons_zero, List.set_cons_succ]
                      refine wpAnyH_done (by kernel_rfl) ?_ _
                      refine NoPanic.normal ?_
                      clear hHeld1 hHeld2 hHeld3 hHeld4 hHeldX
                      go_wp2_with fail
                      go_meet
                      case rel => exact ⟨B, _, _, rfl, Lib.hid HXC.out, Lib.hid ((HG3.out.kept2 (w' := Xw) (fun g hg => by rw [HX.out]; exact heap_setCells_other _ _ _ _ _ (HNE.out g hg)))), Lib.hid (by rw [HX.out]; exact below_cells HBL.out _ _ _ HG0.out)⟩
                  · go_wp2_with fail
                    obtain ⟨U2, hU⟩ : ∃ X, U1.alloc (.cells #[.int .i64 0, .slice none 0 0, .int .i64 0, .string ⟨#[]⟩, .int .i64 0] 29) = X := ⟨_, rfl⟩
                    have hb : Below U1.heap.size U1 U2 := by rw [← hU]; exact (Below.refl _ _).alloc (Nat.le_refl _) _
                    have HZ : Hid (CellsAt U2 U1.heap.size zT) := Lib.hid (by rw [← hU]; exact CellsAt.new U1 29 zT)
                    try rw [hU]
                    clear hU
                    obtain ⟨B, hB⟩ : ∃ B, U1.heap.size = B := ⟨_, rfl⟩
                    have HBL : Hid (V.heap.size ≤ B) := Lib.hid (by rw [← hB]; exact HG0.out.size)
                    rw [hB] at HZ
                    try rw [hB]
                    clear hB
                    have HG0n := Lib.hid (chain HG0.out hb)
                    clear HG0
                    have HG0 := HG0n
                    clear HG0n
                    have HG2n := Lib.hid (HG2.out.below hb)
                    clear HG2
                    have HG2 := HG2n
                    clear HG2n
                    clear hb
                    refine hK.out _ _ (HSI.out _ HG0.out) (fun hHeld2 => ?_)
                    clear hK K
                    try simp only [Act.put, List.getElem_toArray, List.getElem_cons_zero, List.getElem_cons_succ, List.setIfInBounds_toArray, List.set_cons_zero, List.set_cons_succ]
                    refine wpAnyH_ready (rs := [4]) (by kernel_rfl) (by simp) ?_
                    refine ready_one rfl rfl (fun K hK => ?_)
                    go_simp
                    refine (HFG U2 HG2.out).out.mono ?_
                    rintro e U3 ⟨g, rfl, hm, hb⟩
                    have HG2m := Lib.hid hm
                    clear hm
                    go_wp2_with fail
                    have HG0n := Lib.hid (chain HG0.out hb)
                    clear HG0
                    have HG0 := HG0n
                    clear HG0n
                    clear HG2
                    have HG2 := HG2m
                    clear HG2m
                    have HZn := Lib.hid (HZ.out.below hb)
                    clear HZ
                    have HZ := HZn
                    clear HZn
                    clear hb
                    refine hK.out _ _ (HSI.out _ HG0.out) (fun hHeld3 => ?_)
                    clear hK K
                    try simp only [Act.put, List.getElem_toArray, List.getElem_cons_zero, List.getElem_cons_succ, List.setIfInBounds_toArray, List.set_cons_zero, List.set_cons_succ]
                    refine wpAnyH_ready (rs := [5]) (by kernel_rfl) (by simp) ?_
                    refine ready_one rfl rfl (fun K hK => ?_)
                    go_simp
                    refine (HTG g U3 HG2.out).out.mono ?_
                    rintro e U4 ⟨v, rfl, hr, hb⟩
                    obtain ⟨av, nv, cv, rfl⟩ := hr.isSlice
                    have HNE : Hid (∀ g, (Value.slice av nv cv).ownBlock = some g → g ≠ B) := Lib.hid (fun g hg => by have h1 := (hr.lt g hg).1; have h2 := HZ.out.lt; omega)
                    have HG3 : Hid (RowA U4 V.heap.size (.slice av nv cv) X.ad) := Lib.hid (hr.mono HG0.out.size)
                    clear hr
                    go_wp2_with fail
                    have HG0n := Lib.hid (chain HG0.out hb)
                    clear HG0
                    have HG0 := HG0n
                    clear HG0n
                    have HG2n := Lib.hid (HG2.out.below hb)
                    clear HG2
                    have HG2 := HG2n
                    clear HG2n
                    have HZn := Lib.hid (HZ.out.below hb)
                    clear HZ
                    have HZ := HZn
                    clear HZn
                    clear hb
                    refine hK.out _ _ (HSI.out _ HG0.out) (fun hHeld4 => ?_)
                    clear hK K
                    try simp only [Act.put, List.getElem_toArray, List.getElem_cons_zero, List.getElem_cons_succ, List.setIfInBounds_toArray, List.set_cons_zero, List.set_cons_succ]
                    refine wpAnyH_ready (rs := [7]) (by kernel_rfl) (by simp) ?_
                    refine ready_one rfl rfl (fun K hK => ?_)
                    refine wp_store_of HZ rfl hsT _ _ rfl rfl rfl (vs := tldL X (.slice av nv cv)) rfl rfl rfl (fun Xw HX HXC => ?_)
                    have HSX : Hid (S Xw) := Lib.hid (HSO.out _ HG0.out B HBL.out _ _ HX.out)
                    refine hK.out _ _ HSX.out (fun hHeldX => ?_)
                    clear hK K
                    try simp only [Act.put, List.getElem_toArray, List.getElem_cons_zero, List.getElem_cons_succ, List.setIfInBounds_toArray, List.set_cons_zero, List.set_cons_succ]
                    refine wpAnyH_done (by kernel_rfl) ?_ _
                    refine NoPanic.normal ?_
                    clear hHeld1 hHeld2 hHeld3 hHeld4 hHeldX
                    go_wp2_with fail
                    go_meet
                    case rel => exact ⟨B, _, _, rfl, Lib.hid HXC.out, Lib.hid ((HG3.out.kept2 (w' := Xw) (fun g hg => by rw [HX.out]; exact heap_setCells_other _ _ _ _ _ (HNE.out g hg)))), Lib.hid (by rw [HX.out]; exact below_cells HBL.out _ _ _ HG0.out)⟩
                · go_wp2_with fail
                  obtain ⟨U1, hU⟩ : ∃ X, V.alloc (.cells #[.int .i64 0, .slice none 0 0, .int .i64 0, .string ⟨#[]⟩, .int .i64 0] 29) = X := ⟨_, rfl⟩
                  have hb : Below V.heap.size V U1 := by rw [← hU]; exact (Below.refl _ _).alloc (Nat.le_refl _) _
                  have HZ : Hid (CellsAt U1 V.heap.size zT) := Lib.hid (by rw [← hU]; exact CellsAt.new V 29 zT)
                  try rw [hU]
                  clear hU
                  obtain ⟨B, hB⟩ : ∃ B, V.heap.size = B := ⟨_, rfl⟩
                  have HBL : Hid (V.heap.size ≤ B) := Lib.hid (by rw [← hB]; exact HG0.out.size)
                  rw [hB] at HZ
                  try rw [hB]
                  clear hB
                  have HG0n := Lib.hid (chain HG0.out hb)
                  clear HG0
                  have HG0 := HG0n
                  clear HG0n
                  have HG2n := Lib.hid (HG2.out.below hb)
                  clear HG2
                  have HG2 := HG2n
                  clear HG2n
                  clear hb
                  refine hK.out _ _ (HSI.out _ HG0.out) (fun hHeld1 => ?_)
                  clear hK K
                  try simp only [Act.put, List.getElem_toArray, List.getElem_cons_zero, List.getElem_cons_succ, List.setIfInBounds_toArray, List.set_cons_zero, List.set_cons_succ]
                  refine wpAnyH_ready (rs := [2]) (by kernel_rfl) (by simp) ?_
                  refine ready_one rfl rfl (fun K hK => ?_)
                  go_simp
                  refine (HAS U1).out.mono ?_
                  rintro e U2 ⟨rfl, hb⟩
                  go_wp2_with fail
                  have HG0n := Lib.hid (chain HG0.out hb)
                  clear HG0
                  have HG0 := HG0n
                  clear HG0n
                  have HG2n := Lib.hid (HG2.out.below hb)
                  clear HG2
                  have HG2 := HG2n
                  clear HG2n
                  have HZn := Lib.hid (HZ.out.below hb)
                  clear HZ
                  have HZ := HZn
                  clear HZn
                  clear hb
                  refine hK.out _ _ (HSI.out _ HG0.out) (fun hHeld2 => ?_)
                  clear hK K
                  try simp only [Act.put, List.getElem_toArray, List.getElem_cons_zero, List.getElem_cons_succ, List.setIfInBounds_toArray, List.set_cons_zero, List.set_cons_succ]
                  refine wpAnyH_ready (rs := [4]) (by kernel_rfl) (by simp) ?_
                  refine ready_one rfl rfl (fun K hK => ?_)
                  go_simp
                  refine (HFG U2 HG2.out).out.mono ?_
                  rintro e U3 ⟨g, rfl, hm, hb⟩
                  have HG2m := Lib.hid hm
                  clear hm
                  go_wp2_with fail
                  have HG0n := Lib.hid (chain HG0.out hb)
                  clear HG0
                  have HG0 := HG0n
                  clear HG0n
                  clear HG2
                  have HG2 := HG2m
                  clear HG2m
                  have HZn := Lib.hid (HZ.out.below hb)
                  clear HZ
                  have HZ := HZn
                  clear HZn
                  clear hb
                  refine hK.out _ _ (HSI.out _ HG0.out) (fun hHeld3 => ?_)
                  clear hK K
                  try simp only [Act.put, List.getElem_toArray, List.getElem_cons_zero, List.getElem_cons_succ, List.setIfInBounds_toArray, List.set_cons_zero, List.set_cons_succ]
                  refine wpAnyH_ready (rs := [5]) (by kernel_rfl) (by simp) ?_
                  refine ready_one rfl rfl (fun K hK => ?_)
                  go_simp
                  refine (HTG g U3 HG2.out).out.mono ?_
                  rintro e U4 ⟨v, rfl, hr, hb⟩
                  obtain ⟨av, nv, cv, rfl⟩ := hr.isSlice
                  have HNE : Hid (∀ g, (Value.slice av nv cv).ownBlock = some g → g ≠ B) := Lib.hid (fun g hg => by have h1 := (hr.lt g hg).1; have h2 := HZ.out.lt; omega)
                  have HG3 : Hid (RowA U4 V.heap.size (.slice av nv cv) X.ad) := Lib.hid (hr.mono HG0.out.size)
                  clear hr
                  go_wp2_with fail
                  have HG0n := Lib.hid (chain HG0.out hb)
                  clear HG0
                  have HG0 := HG0n
                  clear HG0n
                  have HG2n := Lib.hid (HG2.out.below hb)
                  clear HG2
                  have HG2 := HG2n
                  clear HG2n
                  have HZn := Lib.hid (HZ.out.below hb)
                  clear HZ
                  have HZ := HZn
                  clear HZn
                  clear hb
                  refine hK.out _ _ (HSI.out _ HG0.out) (fun hHeld4 => ?_)
                  clear hK K
                  try simp only [Act.put, List.getElem_toArray, List.getElem_cons_zero, List.getElem_cons_succ, List.setIfInBounds_toArray, List.set_cons_zero, List.set_cons_succ]
                  refine wpAnyH_ready (rs := [7]) (by kernel_rfl) (by simp) ?_
                  refine ready_one rfl rfl (fun K hK => ?_)
                  refine wp_store_of HZ rfl hsT _ _ rfl rfl rfl (vs := tldL X (.slice av nv cv)) rfl rfl rfl (fun Xw HX HXC => ?_)
                  have HSX : Hid (S Xw) := Lib.hid (HSO.out _ HG0.out B HBL.out _ _ HX.out)
                  refine hK.out _ _ HSX.out (fun hHeldX => ?_)
                  clear hK K
                  try simp only [Act.put, List.getElem_toArray, List.getElem_cons_zero, List.getElem_cons_succ, List.setIfInBounds_toArray, List.set_cons_zero, List.set_cons_succ]
                  refine wpAnyH_done (by kernel_rfl) ?_ _
                  refine NoPanic.normal ?_
                  clear hHeld1 hHeld2 hHeld3 hHeld4 hHeldX
                  go_wp2_with fail
                  go_meet
                  case rel => exact ⟨B, _, _, rfl, Lib.hid HXC.out, Lib.hid ((HG3.out.kept2 (w' := Xw) (fun g hg => by rw [HX.out]; exact heap_setCells_other _ _ _ _ _ (HNE.out g hg)))), Lib.hid (by rw [HX.out]; exact below_cells HBL.out _ _ _ HG0.out)⟩
              case rest =>
                obtain ⟨B2, v2, Bt2, rfl, HT2, HRo2, HBl2⟩ := hcut
                have hbb : Below w8.heap.size w8 wc := chain (Below.refl _ _).drew HBl2.out
                have HT1c := Lib.hid (HT9.out.below hbb)
                have HRo1c := Lib.hid (HRo9.out.below hbb)
                have HBc := Lib.hid (chain HB9.out hbb)
                clear hbb HT9 HRo9 HB9 HBl2 HQ9 HG9 HAS HFG HTG
                clear hd hc1 hkN hk hor hj2 hj5 hK hd1 hd1n
                obtain ⟨xe, xa, xt, xn, xs9⟩ := X
                obtain ⟨b1, d1, rfl, m1⟩ := HRo1c.out.ads
                obtain ⟨b2, d2, rfl, m2⟩ := HRo2.out.ads
                have hl : xa.length ≤ 1000 := HRo2.out.2.2
                have HS := Lib.hid (sameAdsC_any b2 b1 d2 d1 xa xa wc m2.1 m1.1 (by omega) (by omega))
                simp only [decide_true] at HS
                simp only [tldL] at HT1c HT2
                generalize xa.length = n at *
                clear m1 m2 hl HRo1c HRo2
                have x0 := HT1c.out.cell 0 _ rfl
                have x1 := HT1c.out.cell 1 _ rfl
                have y0 := HT2.out.cell 0 _ rfl
                have y1 := HT2.out.cell 1 _ rfl
                go_wp2_with fail
                refine HS.out.mono ?_
                rintro e2 wd ⟨rfl, hb⟩
                have H3 := Lib.hid (HT1c.out.below hb)
                have H4 := Lib.hid (HT2.out.below hb)
                have HB5 := Lib.hid (chain HBc.out hb)
                clear hb x0 x1 y0 y1 HS HT1c HT2 HBc
                have x2 := H3.out.cell 2 _ rfl
                have x3 := H3.out.cell 3 _ rfl
                have x4 := H3.out.cell 4 _ rfl
                have y2 := H4.out.cell 2 _ rfl
                have y3 := H4.out.cell 3 _ rfl
                have y4 := H4.out.cell 4 _ rfl
                go_wp2_with fail
                refine (HLV wd).out.mono ?_
                rintro e3 we ⟨rfl, hbe⟩
                have HB6 := Lib.hid (chain HB5.out hbe)
                clear hbe
                go_wp2_with fail
                go_ret
                exact ⟨rfl, HB6.out⟩
            · have hd1 : decide ((j : Int) < (len2 : Int)) = true := decide_eq_true (by omega)
              have hd1n : decide (j < len2) = true := decide_eq_true hor
              have hd2 : decide ((j : Int) < 5) = false := decide_eq_false (by omega)
              have hd2n : decide (j < 5) = false := decide_eq_false (by omega)
              have hle := HLE.out
              have hNL := HN.out
              have hwn : IntKind.i64.wrap ((N : Int) + 1) = (N : Int) + 1 := by rw [IntKind.wrap_i64]; omega
              have HAR : ∀ W, Hid (Calls Try.prog 11 #[.int .i64 z, .int .i64 ((N : Int) + 1)] W fun e w' => e = .returned (.int .i64 ((aroundN z (N + 1) : Nat) : Int)) ∧ W = w') := fun W => Lib.hid (by
                have h := around_any z (N + 1) W HW3.out (by omega) (by omega)
                exact h)
              have hK := aroundN_lt z (N + 1) (by omega)
              generalize aroundN z (N + 1) = k2 at *
              go_upto_region 18 with fail
              refine (HAR wr).out.mono ?_
              rintro e wq ⟨rfl, hwq⟩
              obtain rfl : wr = wq := hwq
              clear HAR hwn
              have hc1 : N ≤ cap := by have := HA6.out.1; omega
              go_upto_region 19 with fail
              have hs1 := run_slice_toR a cap N k2 (by omega) wr
              have HP1 := Lib.hid (HA6.out.takeR k2)
              generalize (if cap = 0 then a else a.map (fun x => x.add (0 * 23))) = ad1 at hs1 HP1
              have HE1 : Hid (RowR wr wr.heap.size (.slice none 0 0) []) := Lib.hid (RowR.nil _ _)
              have HM1 : Hid (k2 = (L.take k2).length) := Lib.hid (by rw [List.length_take]; omega)
              have HY1 : Hid (All16 (L.take k2)) := Lib.hid (fun r hr => (HA6.out.2.2.1 r (List.mem_of_mem_take hr)).1)
              have HL1 : Hid (([] : List Rec).length + (L.take k2).length ≤ 100000) := Lib.hid (by rw [← HM1.out]; simp; omega)
              have HS1 : Hid (wr.heap.size ≤ wr.heap.size) := Lib.hid (Nat.le_refl _)
              go_upto_region 20 with (at_builtin; refine append_recsG HE1 _ _ rfl rfl rfl (L.take k2) rfl HM1 HP1 HY1 HL1 HS1 (fun v6 w6 HO6 HG6 => ?_))
              have HB61 : Hid (Below wr.heap.size wr w6) := Lib.hid ((Below.refl _ _).grown HG6.out (Nat.le_refl _) (fun y hy => (HE1.out.1.lt y hy).1))
              have HP2 : Hid (RecsR w6 am T) := Lib.hid (RecsR.below (by
                rcases HTM.out.2.2.2 with h4 | ⟨g, o, e, hg, hr⟩
                · exact .inl (List.eq_nil_of_length_eq_zero h4)
                · exact .inr ⟨g, o, e, hg, hr⟩) HB61.out)
              have HY2 : Hid (All16 T) := Lib.hid (fun r hr => (HTM.out.2.2.1 r hr).1)
              have HL2 : Hid (([] ++ L.take k2 : List Rec).length + T.length ≤ 100000) := Lib.hid (by have h1 := HTL.out; have h2 := HM1.out; rw [List.nil_append, ← h2]; omega)
              have HS2 : Hid (wr.heap.size ≤ w6.heap.size) := Lib.hid HB61.out.size
              have HM2 : Hid (T.length = T.length) := Lib.hid rfl
              clear HG6 hs1 HP1 HE1
              go_upto_region 21 with (at_builtin; refine append_recsG HO6 _ _ rfl rfl rfl T rfl HM2 HP2 HY2 HL2 HS2 (fun v7 w7 HO7 HG7 => ?_))
              have HB7 : Hid (Below wr.heap.size wr w7) := Lib.hid (HB61.out.grown HG7.out HS2.out (fun y hy => (HO6.out.1.lt y hy).1))
              have hs3 := run_slice_fromR a cap N k2 (by omega) hc1 w7
              have HP3 := Lib.hid ((HA6.out.below HB7.out).dropR k2 (by omega))
              generalize (if cap = k2 then a else a.map (fun x => x.add (k2 * 23))) = ad3 at hs3 HP3
              have HM3 : Hid (N - k2 = (L.drop k2).length) := Lib.hid (by rw [List.length_drop]; omega)
              have HY3 : Hid (All16 (L.drop k2)) := Lib.hid (fun r hr => (HA6.out.2.2.1 r (List.mem_of_mem_drop hr)).1)
              have HL3 : Hid ((([] ++ L.take k2) ++ T : List Rec).length + (L.drop k2).length ≤ 100000) := Lib.hid (by have h1 := HTL.out; have h2 := HM1.out; have h3 := HM3.out; rw [List.nil_append, List.length_append, ← h2, ← h3]; omega)
              have HS3 : Hid (wr.heap.size ≤ w7.heap.size) := Lib.hid HB7.out.size
              clear HG7 HO6 HP2 HB61
              go_upto_region 22 with (at_builtin; refine append_recsG HO7 _ _ rfl rfl rfl (L.drop k2) rfl HM3 HP3 HY3 HL3 HS3 (fun v8 w8 HO8 HG8 => ?_))
              have HB8 : Hid (Below wr.heap.size wr w8) := Lib.hid (HB7.out.grown HG8.out HS3.out (fun y hy => (HO7.out.1.lt y hy).1))
              obtain ⟨ag, cg, rfl, hrg⟩ := HO8.out.recs (cut_fit HA6.out.2.2.1 HFA.out)
              have HG9 := Lib.hid hrg
              have HAE := Lib.hid (cut_all (k := k2) HALL.out HFA.out)
              have HLN := Lib.hid (cut_len (T := T) (show k2 ≤ L.length by omega))
              have HTX : Hid (tellP 33152 nm ty (([] ++ L.take k2 ++ T) ++ L.drop k2) = X) := Lib.hid (by rw [cut_told HFA.out (by rw [HCX.out]; exact HXM.out)]; exact HX.out)
              clear hrg HG8 HO7 HO8 HB7 HP3 hs3 HY1 HY2 HY3 HL1 HL2 HL3 HM1 HM2 HM3
              generalize (([] ++ L.take k2 ++ T) ++ L.drop k2) = E at *
              obtain ⟨NE, hNE⟩ : ∃ NE, E.length = NE := ⟨_, rfl⟩
              have hNE9 : NE ≤ 900 := by have h1 := HLN.out; have h2 := HTL.out; omega
              have HFG := HFG0 ag cg E NE hNE
              have HTG := HTG0 ag cg E NE hNE HAE.out hNE9
              simp only [HTX.out] at HTG
              simp only [hNE]
              have HT9 := Lib.hid (HT6.out.below HB8.out)
              have HRo9 := Lib.hid (HRo6.out.below HB8.out)
              have HQ9 := Lib.hid (HQ6.out.below HB8.out)
              have HB9 := Lib.hid (chain HB6.out HB8.out)
              clear HFG0 HTG0 hNE hNE9 HLN HAE HTX HX HCX HXM HT6 HRo6 HQ6 HB6 HB8 HA6 HTM HTL HFA HALL HLE HN hle hNL
              go_cut [20] from 21 (fun s wx => ∃ (B : Nat) (v : Value) (Bt : Nat), s = .pointer (some ⟨B, 0, none⟩) ∧ Hid (CellsAt wx B (tldL X v)) ∧ Hid (RowA wx Bt v X.ad) ∧ Hid (Below w8.drew.heap.size w8.drew wx))
              case first =>
                have hsT : (Try.prog.info? 29).map (·.size) = some 5 := by kernel_rfl
                have hsQ : (Try.prog.info? 23).map (·.size) = some ([.int .i64 id, .string nm, .int .i64 ty, .int .i64 sv] : List Value).length := by kernel_rfl
                have HQd := Lib.hid (HQ9.out.below (Below.refl _ _).drew)
                have HG2 := Lib.hid (HG9.out.below (Below.refl _ _).drew)
                obtain ⟨S, hS⟩ : ∃ S : World → Prop, (fun U => U.rangeAt w.heap.size 0 [.int .i64 id, .string nm, .int .i64 ty, .int .i64 sv]) = S := ⟨_, rfl⟩
                have C1 : Hid (∀ w', S w' → w'.rangeAt w.heap.size 0 [.int .i64 id, .string nm, .int .i64 ty, .int .i64 sv]) := Lib.hid (fun w' h => by rw [← hS] at h; exact h)
                have HSI : Hid (∀ U, Below w8.drew.heap.size w8.drew U → S U) := Lib.hid (fun U h => by rw [← hS]; exact (HQd.out.below h).range)
                have HSO : Hid (∀ U, Below w8.drew.heap.size w8.drew U → ∀ B, w8.drew.heap.size ≤ B → ∀ vs X, X = U.setCells B 0 vs → S X) := Lib.hid (fun U h B hB vs X e => by
                  have h1 := HQd.out.lt
                  rw [← hS, e]
                  exact ((HQd.out.below h).apart (by omega) _).range)
                clear hS
                refine wp_region_noPanic ?_
                refine wp_region_held_drew (S := S) (by kernel_rfl) (HSI.out _ (Below.refl _ _)) (fun hHeld => ?_)
                generalize w8.drew = V at *
                have HG0 : Hid (Below V.heap.size V V) := Lib.hid (Below.refl _ _)
                refine wpAnyH_take (i := 0) rfl (by kernel_rfl) (by kernel_rfl) (by kernel_rfl) (fun _ _ _ h => h) (yields_row C1 Try.underlying23 rfl hsQ (by rfl) _ rfl rfl) (by assumption) ?_
                try simp only [Act.put, List.getElem_toArray, List.getElem_cons_zero, List.setIfInBounds_toArray, List.set_cons_zero, List.set_cons_succ]
                refine wpAnyH_take (i := 1) rfl (by kernel_rfl) (by kernel_rfl) (by kernel_rfl) (fun _ _ _ h => h) (yields_row C1 Try.underlying23 rfl hsQ (by rfl) _ rfl rfl) (by assumption) ?_
                try simp only [Act.put, List.getElem_toArray, List.getElem_cons_zero, List.getElem_cons_succ, List.setIfInBounds_toArray, List.set_cons_zero, List.set_cons_succ]
                refine wpAnyH_take (i := 3) (v := ?_) rfl (by kernel_rfl) (by kernel_rfl) (by kernel_rfl) (fun _ _ _ h => h) (Or.inl ⟨by rfl, ?_⟩) (by assumption) ?_
                rotate_left
                · (intro w hSw; go_simp; try (with_reducible rfl))
                try simp only [Act.put, List.getElem_toArray, List.getElem_cons_zero, List.getElem_cons_succ, List.setIfInBounds_toArray, List.set_cons_zero, List.set_cons_succ]
                clear hsQ C1 hHeld
                obtain ⟨U0, hU0⟩ : ∃ U0, V = U0 := ⟨V, rfl⟩
                clear U0 hU0
                refine wpAnyH_ready (rs := [2, 6]) (by kernel_rfl) (by simp) ?_
                refine AllReadyH.cons rfl (fun K hK => ?_) (ready_one rfl rfl (fun K hK => ?_))
                · rw [if_pos (by rfl)]
                  go_simp
                  refine (HAS V).out.mono ?_
                  rintro e U1 ⟨rfl, hb⟩
                  go_wp2_with fail
                  have HG0n := Lib.hid (chain HG0.out hb)
                  clear HG0
                  have HG0 := HG0n
                  clear HG0n
                  have HG2n := Lib.hid (HG2.out.below hb)
                  clear HG2
                  have HG2 := HG2n
                  clear HG2n
                  clear hb
                  refine hK.out _ _ (HSI.out _ HG0.out) (fun hHeld1 => ?_)
                  clear hK K
                  try simp only [Act.put, List.getElem_toArray, List.getElem_cons_zero, List.getElem_cons_succ, List.setIfInBounds_toArray, List.set_cons_zero, List.set_cons_succ]
                  refine wpAnyH_ready (rs := [4, 6]) (by kernel_rfl) (by simp) ?_
                  refine AllReadyH.cons rfl (fun K hK => ?_) (ready_one rfl rfl (fun K hK => ?_))
                  · rw [if_pos (by rfl)]
                    go_simp
                    refine (HFG U1 HG2.out).out.mono ?_
                    rintro e U2 ⟨g, rfl, hm, hb⟩
                    have HG2m := Lib.hid hm
                    clear hm
                    go_wp2_with fail
                    have HG0n := Lib.hid (chain HG0.out hb)
                    clear HG0
                    have HG0 := HG0n
                    clear HG0n
                    clear HG2
                    have HG2 := HG2m
                    clear HG2m
                    clear hb
                    refine hK.out _ _ (HSI.out _ HG0.out) (fun hHeld2 => ?_)
                    clear hK K
                    try simp only [Act.put, List.getElem_toArray, List.getElem_cons_zero, List.getElem_cons_succ, List.setIfInBounds_toArray, List.set_cons_zero, List.set_cons_succ]
                    refine wpAnyH_ready (rs := [5, 6]) (by kernel_rfl) (by simp) ?_
                    refine AllReadyH.cons rfl (fun K hK => ?_) (ready_one rfl rfl (fun K hK => ?_))
                    · rw [if_pos (by rfl)]
                      go_simp
                      refine (HTG g U2 HG2.out).out.mono ?_
                      rintro e U3 ⟨v, rfl, hr, hb⟩
                      obtain ⟨av, nv, cv, rfl⟩ := hr.isSlice
                      have HG3 : Hid (RowA U3 V.heap.size (.slice av nv cv) X.ad) := Lib.hid (hr.mono HG0.out.size)
                      clear hr
                      go_wp2_with fail
                      have HG0n := Lib.hid (chain HG0.out hb)
                      clear HG0
                      have HG0 := HG0n
                      clear HG0n
                      have HG2n := Lib.hid (HG2.out.below hb)
                      clear HG2
                      have HG2 := HG2n
                      clear HG2n
                      clear hb
                      refine hK.out _ _ (HSI.out _ HG0.out) (fun hHeld3 => ?_)
                      clear hK K
                      try simp only [Act.put, List.getElem_toArray, List.getElem_cons_zero, List.getElem_cons_succ, List.setIfInBounds_toArray, List.set_cons_zero, List.set_cons_succ]
                      refine wpAnyH_ready (rs := [6]) (by kernel_rfl) (by simp) ?_
                      refine ready_one rfl rfl (fun K hK => ?_)
                      go_wp2_with fail
                      obtain ⟨U4, hU⟩ : ∃ X, U3.alloc (.cells #[.int .i64 0, .slice none 0 0, .int .i64 0, .string ⟨#[]⟩, .int .i64 0] 29) = X := ⟨_, rfl⟩
                      have hb : Below U3.heap.size U3 U4 := by rw [← hU]; exact (Below.refl _ _).alloc (Nat.le_refl _) _
                      have HZ : Hid (CellsAt U4 U3.heap.size zT) := Lib.hid (by rw [← hU]; exact CellsAt.new U3 29 zT)
                      try rw [hU]
                      clear hU
                      obtain ⟨B, hB⟩ : ∃ B, U3.heap.size = B := ⟨_, rfl⟩
                      have HBL : Hid (V.heap.size ≤ B) := Lib.hid (by rw [← hB]; exact HG0.out.size)
                      have HNE : Hid (∀ g, (Value.slice av nv cv).ownBlock = some g → g ≠ B) := Lib.hid (fun g hg => by rw [← hB]; exact Nat.ne_of_lt (HG3.out.lt g hg).2)
                      rw [hB] at HZ
                      try rw [hB]
                      clear hB
                      have HG0n := Lib.hid (chain HG0.out hb)
                      clear HG0
                      have HG0 := HG0n
                      clear HG0n
                      have HG2n := Lib.hid (HG2.out.below hb)
                      clear HG2
                      have HG2 := HG2n
                      clear HG2n
                      have HG3n := Lib.hid (HG3.out.below hb)
                      clear HG3
                      have HG3 := HG3n
                      clear HG3n
                      clear hb
                      refine hK.out _ _ (HSI.out _ HG0.out) (fun hHeld4 => ?_)
                      clear hK K
                      try simp only [Act.put, List.getElem_toArray, List.getElem_cons_zero, List.getElem_cons_succ, List.setIfInBounds_toArray, List.set_cons_zero, List.set_cons_succ]
                      refine wpAnyH_ready (rs := [7]) (by kernel_rfl) (by simp) ?_
                      refine ready_one rfl rfl (fun K hK => ?_)
                      refine wp_store_of HZ rfl hsT _ _ rfl rfl rfl (vs := tldL X (.slice av nv cv)) rfl rfl rfl (fun Xw HX HXC => ?_)
                      have HSX : Hid (S Xw) := Lib.hid (HSO.out _ HG0.out B HBL.out _ _ HX.out)
                      refine hK.out _ _ HSX.out (fun hHeldX => ?_)
                      clear hK K
                      try simp only [Act.put, List.getElem_toArray, List.getElem_cons_zero, List.getElem_cons_succ, List.setIfInBounds_toArray, List.set_cons_zero, List.set_cons_succ]
                      refine wpAnyH_done (by kernel_rfl) ?_ _
                      refine NoPanic.normal ?_
                      clear hHeld1 hHeld2 hHeld3 hHeld4 hHeldX
                      go_wp2_with fail
                      go_meet
                      case rel => exact ⟨B, _, _, rfl, Lib.hid HXC.out, Lib.hid ((HG3.out.kept2 (w' := Xw) (fun g hg => by rw [HX.out]; exact heap_setCells_other _ _ _ _ _ (HNE.out g hg)))), Lib.hid (by rw [HX.out]; exact below_cells HBL.out _ _ _ HG0.out)⟩
                    · go_wp2_with fail
                      obtain ⟨U3, hU⟩ : ∃ X, U2.alloc (.cells #[.int .i64 0, .slice none 0 0, .int .i64 0, .string ⟨#[]⟩, .int .i64 0] 29) = X := ⟨_, rfl⟩
                      have hb : Below U2.heap.size U2 U3 := by rw [← hU]; exact (Below.refl _ _).alloc (Nat.le_refl _) _
                      have HZ : Hid (CellsAt U3 U2.heap.size zT) := Lib.hid (by rw [← hU]; exact CellsAt.new U2 29 zT)
                      try rw [hU]
                      clear hU
                      obtain ⟨B, hB⟩ : ∃ B, U2.heap.size = B := ⟨_, rfl⟩
                      have HBL : Hid (V.heap.size ≤ B) := Lib.hid (by rw [← hB]; exact HG0.out.size)
                      rw [hB] at HZ
                      try rw [hB]
                      clear hB
                      have HG0n := Lib.hid (chain HG0.out hb)
                      clear HG0
                      have HG0 := HG0n
                      clear HG0n
                      have HG2n := Lib.hid (HG2.out.below hb)
                      clear HG2
                      have HG2 := HG2n
                      clear HG2n
                      clear hb
                      refine hK.out _ _ (HSI.out _ HG0.out) (fun hHeld3 => ?_)
                      clear hK K
                      try simp only [Act.put, List.getElem_toArray, List.getElem_cons_zero, List.getElem_cons_succ, List.setIfInBounds_toArray, List.set_cons_zero, List.set_cons_succ]
                      refine wpAnyH_ready (rs := [5]) (by kernel_rfl) (by simp) ?_
                      refine ready_one rfl rfl (fun K hK => ?_)
                      go_simp
                      refine (HTG g U3 HG2.out).out.mono ?_
                      rintro e U4 ⟨v, rfl, hr, hb⟩
                      obtain ⟨av, nv, cv, rfl⟩ := hr.isSlice
                      have HNE : Hid (∀ g, (Value.slice av nv cv).ownBlock = some g → g ≠ B) := Lib.hid (fun g hg => by have h1 := (hr.lt g hg).1; have h2 := HZ.out.lt; omega)
                      have HG3 : Hid (RowA U4 V.heap.size (.slice av nv cv) X.ad) := Lib.hid (hr.mono HG0.out.size)
                      clear hr
                      go_wp2_with fail
                      have HG0n := Lib.hid (chain HG0.out hb)
                      clear HG0
                      have HG0 := HG0n
                      clear HG0n
                      have HG2n := Lib.hid (HG2.out.below hb)
                      clear HG2
                      have HG2 := HG2n
                      clear HG2n
                      have HZn := Lib.hid (HZ.out.below hb)
                      clear HZ
                      have HZ := HZn
                      clear HZn
                      clear hb
                      refine hK.out _ _ (HSI.out _ HG0.out) (fun hHeld4 => ?_)
                      clear hK K
                      try simp only [Act.put, List.getElem_toArray, List.getElem_cons_zero, List.getElem_cons_succ, List.setIfInBounds_toArray, List.set_cons_zero, List.set_cons_succ]
                      refine wpAnyH_ready (rs := [7]) (by kernel_rfl) (by simp) ?_
                      refine ready_one rfl rfl (fun K hK => ?_)
                      refine wp_store_of HZ rfl hsT _ _ rfl rfl rfl (vs := tldL X (.slice av nv cv)) rfl rfl rfl (fun Xw HX HXC => ?_)
                      have HSX : Hid (S Xw) := Lib.hid (HSO.out _ HG0.out B HBL.out _ _ HX.out)
                      refine hK.out _ _ HSX.out (fun hHeldX => ?_)
                      clear hK K
                      try simp only [Act.put, List.getElem_toArray, List.getElem_cons_zero, List.getElem_cons_succ, List.setIfInBounds_toArray, List.set_cons_zero, List.set_cons_succ]
                      refine wpAnyH_done (by kernel_rfl) ?_ _
                      refine NoPanic.normal ?_
                      clear hHeld1 hHeld2 hHeld3 hHeld4 hHeldX
                      go_wp2_with fail
                      go_meet
                      case rel => exact ⟨B, _, _, rfl, Lib.hid HXC.out, Lib.hid ((HG3.out.kept2 (w' := Xw) (fun g hg => by rw [HX.out]; exact heap_setCells_other _ _ _ _ _ (HNE.out g hg)))), Lib.hid (by rw [HX.out]; exact below_cells HBL.out _ _ _ HG0.out)⟩
                  · go_wp2_with fail
                    obtain ⟨U2, hU⟩ : ∃ X, U1.alloc (.cells #[.int .i64 0, .slice none 0 0, .int .i64 0, .string ⟨#[]⟩, .int .i64 0] 29) = X := ⟨_, rfl⟩
                    have hb : Below U1.heap.size U1 U2 := by rw [← hU]; exact (Below.refl _ _).alloc (Nat.le_refl _) _
                    have HZ : Hid (CellsAt U2 U1.heap.size zT) := Lib.hid (by rw [← hU]; exact CellsAt.new U1 29 zT)
                    try rw [hU]
                    clear hU
                    obtain ⟨B, hB⟩ : ∃ B, U1.heap.size = B := ⟨_, rfl⟩
                    have HBL : Hid (V.heap.size ≤ B) := Lib.hid (by rw [← hB]; exact HG0.out.size)
                    rw [hB] at HZ
                    try rw [hB]
                    clear hB
                    have HG0n := Lib.hid (chain HG0.out hb)
                    clear HG0
                    have HG0 := HG0n
                    clear HG0n
                    have HG2n := Lib.hid (HG2.out.below hb)
                    clear HG2
                    have HG2 := HG2n
                    clear HG2n
                    clear hb
                    refine hK.out _ _ (HSI.out _ HG0.out) (fun hHeld2 => ?_)
                    clear hK K
                    try simp only [Act.put, List.getElem_toArray, List.getElem_cons_zero, List.getElem_cons_succ, List.setIfInBounds_toArray, List.set_cons_zero, List.set_cons_succ]
                    refine wpAnyH_ready (rs := [4]) (by kernel_rfl) (by simp) ?_
                    refine ready_one rfl rfl (fun K hK => ?_)
                    go_simp
                    refine (HFG U2 HG2.out).out.mono ?_
                    rintro e U3 ⟨g, rfl, hm, hb⟩
                    have HG2m := Lib.hid hm
                    clear hm
                    go_wp2_with fail
                    have HG0n := Lib.hid (chain HG0.out hb)
                    clear HG0
                    have HG0 := HG0n
                    clear HG0n
                    clear HG2
                    have HG2 := HG2m
                    clear HG2m
                    have HZn := Lib.hid (HZ.out.below hb)
                    clear HZ
                    have HZ := HZn
                    clear HZn
                    clear hb
                    refine hK.out _ _ (HSI.out _ HG0.out) (fun hHeld3 => ?_)
                    clear hK K
                    try simp only [Act.put, List.getElem_toArray, List.getElem_cons_zero, List.getElem_cons_succ, List.setIfInBounds_toArray, List.set_cons_zero, List.set_cons_succ]
                    refine wpAnyH_ready (rs := [5]) (by kernel_rfl) (by simp) ?_
                    refine ready_one rfl rfl (fun K hK => ?_)
                    go_simp
                    refine (HTG g U3 HG2.out).out.mono ?_
                    rintro e U4 ⟨v, rfl, hr, hb⟩
                    obtain ⟨av, nv, cv, rfl⟩ := hr.isSlice
                    have HNE : Hid (∀ g, (Value.slice av nv cv).ownBlock = some g → g ≠ B) := Lib.hid (fun g hg => by have h1 := (hr.lt g hg).1; have h2 := HZ.out.lt; omega)
                    have HG3 : Hid (RowA U4 V.heap.size (.slice av nv cv) X.ad) := Lib.hid (hr.mono HG0.out.size)
                    clear hr
                    go_wp2_with fail
                    have HG0n := Lib.hid (chain HG0.out hb)
                    clear HG0
                    have HG0 := HG0n
                    clear HG0n
                    have HG2n := Lib.hid (HG2.out.below hb)
                    clear HG2
                    have HG2 := HG2n
                    clear HG2n
                    have HZn := Lib.hid (HZ.out.below hb)
                    clear HZ
                    have HZ := HZn
                    clear HZn
                    clear hb
                    refine hK.out _ _ (HSI.out _ HG0.out) (fun hHeld4 => ?_)
                    clear hK K
                    try simp only [Act.put, List.getElem_toArray, List.getElem_cons_zero, List.getElem_cons_succ, List.setIfInBounds_toArray, List.set_cons_zero, List.set_cons_succ]
                    refine wpAnyH_ready (rs := [7]) (by kernel_rfl) (by simp) ?_
                    refine ready_one rfl rfl (fun K hK => ?_)
                    refine wp_store_of HZ rfl hsT _ _ rfl rfl rfl (vs := tldL X (.slice av nv cv)) rfl rfl rfl (fun Xw HX HXC => ?_)
                    have HSX : Hid (S Xw) := Lib.hid (HSO.out _ HG0.out B HBL.out _ _ HX.out)
                    refine hK.out _ _ HSX.out (fun hHeldX => ?_)
                    clear hK K
                    try simp only [Act.put, List.getElem_toArray, List.getElem_cons_zero, List.getElem_cons_succ, List.setIfInBounds_toArray, List.set_cons_zero, List.set_cons_succ]
                    refine wpAnyH_done (by kernel_rfl) ?_ _
                    refine NoPanic.normal ?_
                    clear hHeld1 hHeld2 hHeld3 hHeld4 hHeldX
                    go_wp2_with fail
                    go_meet
                    case rel => exact ⟨B, _, _, rfl, Lib.hid HXC.out, Lib.hid ((HG3.out.kept2 (w' := Xw) (fun g hg => by rw [HX.out]; exact heap_setCells_other _ _ _ _ _ (HNE.out g hg)))), Lib.hid (by rw [HX.out]; exact below_cells HBL.out _ _ _ HG0.out)⟩
                · go_wp2_with fail
                  obtain ⟨U1, hU⟩ : ∃ X, V.alloc (.cells #[.int .i64 0, .slice none 0 0, .int .i64 0, .string ⟨#[]⟩, .int .i64 0] 29) = X := ⟨_, rfl⟩
                  have hb : Below V.heap.size V U1 := by rw [← hU]; exact (Below.refl _ _).alloc (Nat.le_refl _) _
                  have HZ : Hid (CellsAt U1 V.heap.size zT) := Lib.hid (by rw [← hU]; exact CellsAt.new V 29 zT)
                  try rw [hU]
                  clear hU
                  obtain ⟨B, hB⟩ : ∃ B, V.heap.size = B := ⟨_, rfl⟩
                  have HBL : Hid (V.heap.size ≤ B) := Lib.hid (by rw [← hB]; exact HG0.out.size)
                  rw [hB] at HZ
                  try rw [hB]
                  clear hB
                  have HG0n := Lib.hid (chain HG0.out hb)
                  clear HG0
                  have HG0 := HG0n
                  clear HG0n
                  have HG2n := Lib.hid (HG2.out.below hb)
                  clear HG2
                  have HG2 := HG2n
                  clear HG2n
                  clear hb
                  refine hK.out _ _ (HSI.out _ HG0.out) (fun hHeld1 => ?_)
                  clear hK K
                  try simp only [Act.put, List.getElem_toArray, List.getElem_cons_zero, List.getElem_cons_succ, List.setIfInBounds_toArray, List.set_cons_zero, List.set_cons_succ]
                  refine wpAnyH_ready (rs := [2]) (by kernel_rfl) (by simp) ?_
                  refine ready_one rfl rfl (fun K hK => ?_)
                  go_simp
                  refine (HAS U1).out.mono ?_
                  rintro e U2 ⟨rfl, hb⟩
                  go_wp2_with fail
                  have HG0n := Lib.hid (chain HG0.out hb)
                  clear HG0
                  have HG0 := HG0n
                  clear HG0n
                  have HG2n := Lib.hid (HG2.out.below hb)
                  clear HG2
                  have HG2 := HG2n
                  clear HG2n
                  have HZn := Lib.hid (HZ.out.below hb)
                  clear HZ
                  have HZ := HZn
                  clear HZn
                  clear hb
                  refine hK.out _ _ (HSI.out _ HG0.out) (fun hHeld2 => ?_)
                  clear hK K
                  try simp only [Act.put, List.getElem_toArray, List.getElem_cons_zero, List.getElem_cons_succ, List.setIfInBounds_toArray, List.set_cons_zero, List.set_cons_succ]
                  refine wpAnyH_ready (rs := [4]) (by kernel_rfl) (by simp) ?_
                  refine ready_one rfl rfl (fun K hK => ?_)
                  go_simp
                  refine (HFG U2 HG2.out).out.mono ?_
                  rintro e U3 ⟨g, rfl, hm, hb⟩
                  have HG2m := Lib.hid hm
                  clear hm
                  go_wp2_with fail
                  have HG0n := Lib.hid (chain HG0.out hb)
                  clear HG0
                  have HG0 := HG0n
                  clear HG0n
                  clear HG2
                  have HG2 := HG2m
                  clear HG2m
                  have HZn := Lib.hid (HZ.out.below hb)
                  clear HZ
                  have HZ := HZn
                  clear HZn
                  clear hb
                  refine hK.out _ _ (HSI.out _ HG0.out) (fun hHeld3 => ?_)
                  clear hK K
                  try simp only [Act.put, List.getElem_toArray, List.getElem_cons_zero, List.getElem_cons_succ, List.setIfInBounds_toArray, List.set_cons_zero, List.set_cons_succ]
                  refine wpAnyH_ready (rs := [5]) (by kernel_rfl) (by simp) ?_
                  refine ready_one rfl rfl (fun K hK => ?_)
                  go_simp
                  refine (HTG g U3 HG2.out).out.mono ?_
                  rintro e U4 ⟨v, rfl, hr, hb⟩
                  obtain ⟨av, nv, cv, rfl⟩ := hr.isSlice
                  have HNE : Hid (∀ g, (Value.slice av nv cv).ownBlock = some g → g ≠ B) := Lib.hid (fun g hg => by have h1 := (hr.lt g hg).1; have h2 := HZ.out.lt; omega)
                  have HG3 : Hid (RowA U4 V.heap.size (.slice av nv cv) X.ad) := Lib.hid (hr.mono HG0.out.size)
                  clear hr
                  go_wp2_with fail
                  have HG0n := Lib.hid (chain HG0.out hb)
                  clear HG0
                  have HG0 := HG0n
                  clear HG0n
                  have HG2n := Lib.hid (HG2.out.below hb)
                  clear HG2
                  have HG2 := HG2n
                  clear HG2n
                  have HZn := Lib.hid (HZ.out.below hb)
                  clear HZ
                  have HZ := HZn
                  clear HZn
                  clear hb
                  refine hK.out _ _ (HSI.out _ HG0.out) (fun hHeld4 => ?_)
                  clear hK K
                  try simp only [Act.put, List.getElem_toArray, List.getElem_cons_zero, List.getElem_cons_succ, List.setIfInBounds_toArray, List.set_cons_zero, List.set_cons_succ]
                  refine wpAnyH_ready (rs := [7]) (by kernel_rfl) (by simp) ?_
                  refine ready_one rfl rfl (fun K hK => ?_)
                  refine wp_store_of HZ rfl hsT _ _ rfl rfl rfl (vs := tldL X (.slice av nv cv)) rfl rfl rfl (fun Xw HX HXC => ?_)
                  have HSX : Hid (S Xw) := Lib.hid (HSO.out _ HG0.out B HBL.out _ _ HX.out)
                  refine hK.out _ _ HSX.out (fun hHeldX => ?_)
                  clear hK K
                  try simp only [Act.put, List.getElem_toArray, List.getElem_cons_zero, List.getElem_cons_succ, List.setIfInBounds_toArray, List.set_cons_zero, List.set_cons_succ]
                  refine wpAnyH_done (by kernel_rfl) ?_ _
                  refine NoPanic.normal ?_
                  clear hHeld1 hHeld2 hHeld3 hHeld4 hHeldX
                  go_wp2_with fail
                  go_meet
                  case rel => exact ⟨B, _, _, rfl, Lib.hid HXC.out, Lib.hid ((HG3.out.kept2 (w' := Xw) (fun g hg => by rw [HX.out]; exact heap_setCells_other _ _ _ _ _ (HNE.out g hg)))), Lib.hid (by rw [HX.out]; exact below_cells HBL.out _ _ _ HG0.out)⟩
              case rest =>
                obtain ⟨B2, v2, Bt2, rfl, HT2, HRo2, HBl2⟩ := hcut
                have hbb : Below w8.heap.size w8 wc := chain (Below.refl _ _).drew HBl2.out
                have HT1c := Lib.hid (HT9.out.below hbb)
                have HRo1c := Lib.hid (HRo9.out.below hbb)
                have HBc := Lib.hid (chain HB9.out hbb)
                clear hbb HT9 HRo9 HB9 HBl2 HQ9 HG9 HAS HFG HTG
                clear hd hc1 hkN hk hor hj2 hj5 hK hd1 hd1n
                obtain ⟨xe, xa, xt, xn, xs9⟩ := X
                obtain ⟨b1, d1, rfl, m1⟩ := HRo1c.out.ads
                obtain ⟨b2, d2, rfl, m2⟩ := HRo2.out.ads
                have hl : xa.length ≤ 1000 := HRo2.out.2.2
                have HS := Lib.hid (sameAdsC_any b2 b1 d2 d1 xa xa wc m2.1 m1.1 (by omega) (by omega))
                simp only [decide_true] at HS
                simp only [tldL] at HT1c HT2
                generalize xa.length = n at *
                clear m1 m2 hl HRo1c HRo2
                have x0 := HT1c.out.cell 0 _ rfl
                have x1 := HT1c.out.cell 1 _ rfl
                have y0 := HT2.out.cell 0 _ rfl
                have y1 := HT2.out.cell 1 _ rfl
                go_wp2_with fail
                refine HS.out.mono ?_
                rintro e2 wd ⟨rfl, hb⟩
                have H3 := Lib.hid (HT1c.out.below hb)
                have H4 := Lib.hid (HT2.out.below hb)
                have HB5 := Lib.hid (chain HBc.out hb)
                clear hb x0 x1 y0 y1 HS HT1c HT2 HBc
                have x2 := H3.out.cell 2 _ rfl
                have x3 := H3.out.cell 3 _ rfl
                have x4 := H3.out.cell 4 _ rfl
                have y2 := H4.out.cell 2 _ rfl
                have y3 := H4.out.cell 3 _ rfl
                have y4 := H4.out.cell 4 _ rfl
                go_wp2_with fail
                refine (HLV wd).out.mono ?_
                rintro e3 we ⟨rfl, hbe⟩
                have HB6 := Lib.hid (chain HB5.out hbe)
                clear hbe
                go_wp2_with fail
                go_ret
                exact ⟨rfl, HB6.out⟩

theorem contract (H : Type) (enc : TypeId × Value → H) (W : World) (base : Nat) (args : Array Value) (ds gs : List (DataW H)) (before : List MemPlace)
    (hval0 : ∀ (j : Nat) t v, Try.f3.params[j]? = some t → args[j]? = some v → Value.okWide Try.prog W .any base t v)
    (hW : DataW.Whole enc Try.prog Try.f3.params.toList Rows.matchOthersSpec.vars false W args.toList ds gs before) (hk : Rows.uptoSmall H (ds ++ gs) = true) :
    Calls Try.prog 3 args W fun e W' => ∃ v, e = .returned v ∧ Rows.matchOthersSpec.post enc Try.prog Try.f3 false true false false W args v W' := by
  have hkb : ∀ d ∈ ds, Rows.uptoBulk d ≤ 1048576 := fun d hd => Nat.le_trans (bulk_mem (List.mem_append_left _ hd)) (of_decide_eq_true hk)
  clear hk
  have hval : ∀ (j : Nat) t v, Try.f3.params[j]? = some t → args[j]? = some v → Value.okWide Try.prog W .any base t v := hval0
  have hW' := hW
  obtain ⟨p, q, hA0, hV, rfl, hfz, hnd⟩ := hW
  have hA : DataW.TrodAll enc Try.prog W 0 (fun _ => true) true Try.f3.params.toList args.toList ds p := hA0
  rw [Try.params3] at hA hval
  obtain ⟨v0, vs0, d0, ds0, p0, q0, hargs, rfl, rfl, h0, r0⟩ := trodAll_cons hA
  obtain ⟨v1, vs1, d1, ds1, p1, q1, rfl, rfl, rfl, h1, r1⟩ := trodAll_cons r0
  obtain ⟨v2, vs2, d2, ds2, p2, q2, rfl, rfl, rfl, h2, r2⟩ := trodAll_cons r1
  obtain ⟨v3, vs3, d3, ds3, p3, q3, rfl, rfl, rfl, h3, r3⟩ := trodAll_cons r2
  obtain ⟨rfl, rfl, rfl⟩ := trodAll_nil r3
  obtain rfl : args = #[v0, v1, v2, v3] := by cases args; simp_all
  obtain ⟨rfl, rfl⟩ := trodVars_none hV
  have k0 := h0
  have lt0 : ∀ x ∈ p0, x.block < W.heap.size := by obtain ⟨m, hm⟩ := k0; exact DataW.trod_lt m _ _ _ hm
  obtain ⟨q0, rfl, w0⟩ := open_qry (hval 0 23 v0 rfl rfl) h0
  replace w0 := w0.wider (hkb d0 (by simp))
  obtain ⟨a1, len1, cap1, rfl⟩ := okWide_slice Try.underlying24 (hval 1 24 v1 rfl rfl)
  have k1 := h1
  have lt1 : ∀ x ∈ p1, x.block < W.heap.size := by obtain ⟨m, hm⟩ := k1; exact DataW.trod_lt m _ _ _ hm
  obtain ⟨z1, w1⟩ : ∃ D, RecsIn W a1 len1 cap1 D (Rows.uptoBulk d1) := by
    obtain ⟨fuel, hf⟩ := h1
    obtain ⟨xa, xl, xc, D, hcs, hw⟩ := open_recs hf
    simp [Value.cells] at hcs
    obtain ⟨rfl, rfl, rfl⟩ := hcs
    exact ⟨D, hw⟩
  replace w1 := w1.wider2 (hkb d1 (by simp))
  obtain ⟨a2, len2, cap2, rfl⟩ := okWide_slice Try.underlying24 (hval 2 24 v2 rfl rfl)
  have k2 := h2
  have lt2 : ∀ x ∈ p2, x.block < W.heap.size := by obtain ⟨m, hm⟩ := k2; exact DataW.trod_lt m _ _ _ hm
  obtain ⟨z2, w2⟩ : ∃ D, RecsIn W a2 len2 cap2 D (Rows.uptoBulk d2) := by
    obtain ⟨fuel, hf⟩ := h2
    obtain ⟨xa, xl, xc, D, hcs, hw⟩ := open_recs hf
    simp [Value.cells] at hcs
    obtain ⟨rfl, rfl, rfl⟩ := hcs
    exact ⟨D, hw⟩
  replace w2 := w2.wider2 (hkb d2 (by simp))
  obtain ⟨a3, rfl, rfl, rfl, w3⟩ := open_int Try.underlying3 (hval 3 3 v3 rfl rfl) h3
  clear hA0 hval0
  refine (walk q0 a1 len1 cap1 z1 a2 len2 cap2 z2 a3 W w0 w1 w2 w3).mono fun e W' ⟨he, bel⟩ => ?_
  subst he
  exact ⟨_, rfl, _, _, _, [], _, [], hW', trodAll_mk1 (shut_bool Try.underlying4 _), (trodAll_cons_mk (Below.trod laidOut (by kernel_rfl) (of_decide_eq_true (by kernel_rfl)) k0 bel lt0) (trodAll_cons_mk (Below.trod laidOut (by kernel_rfl) (of_decide_eq_true (by kernel_rfl)) k1 bel lt1) (trodAll_cons_mk (Below.trod laidOut (by kernel_rfl) (of_decide_eq_true (by kernel_rfl)) k2 bel lt2) (trodAll_cons_mk (shut_int Try.underlying3 w3) trodAll_mk0)))), rfl, bel.frame _, fun h => by cases h⟩

set_option maxRecDepth 100000 in
theorem lifted (os : Os) (started : os.Started) (H : Type) (enc : TypeId × Value → H) (F : Stop.Interp) :
    ReturnsInHanded {} Try.checked os 3 .any ((Rows.OpenSpec.upto Rows.matchOthersSpec).pre6 enc Try.prog Try.f3 Rows.matchOthersUptoRow.domain false) (((Rows.OpenSpec.upto Rows.matchOthersSpec).at F).post enc Try.prog Try.f3 false true false false) := by
  refine returnsInHanded_of_cond (C := Try.checked) (s := Rows.OpenSpec.upto Rows.matchOthersSpec) (k := Rows.uptoSmall) rfl own started (by kernel_rfl) Try.func3
    (OpenSpec.witness (enc := enc) (C := Try.checked) (s := Rows.OpenSpec.upto Rows.matchOthersSpec) (k := Rows.uptoSmall) rfl false ⟨#[], #[.agg #[.int .i64 0, .string ByteArray.empty, .int .i64 0, .int .i64 0], .slice none 0 0, .slice none 0 0, .int .i64 0], []⟩ 8 (by kernel_rfl) (by kernel_rfl) (by kernel_rfl)
      (x := ([.agg [.lit (.int .i64 0), .lit (.string []), .lit (.int .i64 0), .lit (.int .i64 0)], .nil, .nil, .lit (.int .i64 0)], [], [])) (by kernel_rfl) rfl (by kernel_rfl)) ?_
  intro W base args ds gs before hval hW _ hk _
  exact contract H enc W base args ds gs before hval hW hk

theorem proved : Rows.MatchOthersUptoSaid :=
  OpenClaim.holds_of_cond 3 Try.f3 rfl rfl rfl rfl rfl rfl rfl ⟨rfl, rfl, rfl, rfl, rfl⟩ rfl rfl rfl rfl rfl (by kernel_rfl) Try.func3 (by kernel_rfl)
    (of_decide_eq_true (by kernel_rfl)) (by unfold Func.isWrapper; first | (rw [if_pos (by decide +kernel)]; kernel_rfl) | (rw [if_neg (by decide +kernel)]; exact ⟨rfl, rfl⟩))
    (fun os started H enc _ F => lifted os started H enc F)
#print axioms proved
end Go.Proofs.Ytedmkdjijhflnaa.matchOthers

/- For all texts and bytes the statement LabelWrites answers true: what a writer wrote is the document's, and each name is read as it was, at its place. -/
import Derived.Test.YtbeoapfbddcpcaaB5
import Derived.Test.YtbeoapfbddcpcaaRows
import Derived.ProofKit
import Derived.SliceStrings
import Derived.OpenShut
import Derived.ShutString
import Derived.ChangeOld
import Derived.Below
namespace Go.Proofs.Ytbeoapfbddcpcaa.labelWrites
open Go.ChangeShapes Go.WideShapes Go.ChangeAt Go.RowKit
open Go.ChangeMaps (open_string shut_string)
set_option linter.unusedVariables false
set_option maxRecDepth 20000

theorem own : ownKnob Try.prog.godebug = none := by kernel_rfl

/-- The k-th of the places. -/
theorem own_z {w : World} {B : Nat} {v : Value} {l : List Int} (h : w.ownsRow B 3 1 v l.length (intsZ l)) : ∃ a c, v = .slice a l.length c ∧ (l.length = 0 ∨ ∃ g, a = some ⟨g, 0, none⟩ ∧ g < w.heap.size ∧ ∀ k (hk : k < l.length), w.cell? ⟨g, k, none⟩ = some (.int .i64 l[k])) := by
  rcases h.2 with ⟨e1, e2⟩ | ⟨g, cap, cur, e1, e2, e3, e4, e5, e6, e7⟩
  · exact ⟨none, 0, by rw [e1, e2], .inl e2⟩
  · refine ⟨_, cap, e1, .inr ⟨g, rfl, ?_, fun k hk => ?_⟩⟩
    · subst e1; exact (h.lt g rfl).2
    · subst e1
      rw [World.ownsRow.cellAt h k (by omega)]
      unfold intsZ
      simp [hk]
theorem nm8_small (s : ByteArray) (L : List ByteArray) : ∀ (f i : Nat) (l : List UInt8) (ns : List ByteArray) (ats : List Nat), ∀ p ∈ (nm8 s L f i l ns ats).2.1, p ∈ ns ∨ p.size ≤ s.size
  | 0, i, l, ns, ats, p, hp => .inl hp
  | f + 1, i, l, ns, ats, p, hp => by
    unfold nm8 at hp
    split at hp
    · exact .inl hp
    · split at hp
      · exact .inl hp
      · rcases nm8_small s L f _ _ _ _ p hp with h | h
        · split at h
          · rcases List.mem_append.1 h with h | h
            · exact .inl h
            · rw [List.mem_singleton.1 h]; exact .inr (rest_le s i)
          · exact .inl h
        · exact .inr h
theorem nmAll_small {s : ByteArray} {l : List UInt8} {ns : List ByteArray} {ats : List Nat} (h : ∀ p ∈ ns, p.size ≤ 1000) (hs : s.size ≤ 40) : ∀ p ∈ (nmAll s l ns ats).2.1, p.size ≤ 1000 := by
  unfold nmAll
  split
  · intro p hp
    rcases nm8_small s _ _ _ _ _ _ p hp with h1 | h1
    · exact h p h1
    · omega
  · exact h
set_option maxRecDepth 100000 in
set_option maxHeartbeats 8000000 in
theorem walk (a : Option Addr) (len cap : Nat) (ss : List ByteArray) (b : Option Addr) (len2 cap2 : Nat) (ys : List Int) (w : World) (hI : IsStrs w a len cap ss) (hJ : IsRow .u8 w b len2 cap2 ys) :
    Calls Try.prog 6 #[.slice a len cap, .slice b len2 cap2] w fun e w' => e = .returned (.bool true) ∧ Below w.heap.size w w' := by
  obtain ⟨rs, rfl, hR⟩ := bytes_of_row hJ
  have HRI := Lib.hid hR
  have HII := Lib.hid hI
  have hlen : len ≤ 9223372036854775807 := by
    rcases hI with ⟨_, rfl, _⟩ | ⟨x, _, h1, h2, _⟩
    · decide
    · unfold maxLen at h2; omega
  have hrl : rs.length ≤ 9223372036854775807 := by have h1 := hR.1.1; have h2 := hR.1.2.1; unfold maxLen at h2; omega
  obtain ⟨M, hM⟩ : ∃ M, rs.length = M := ⟨_, rfl⟩
  have HM := Lib.hid hM
  rw [hM] at hrl ⊢
  have HLV := fun W => Lib.hid (lives8_any W)
  obtain ⟨W2, hW2⟩ : ∃ W2, (w.alloc (.cells #[.slice none 0 0, .map none] 43)).alloc (.cells #[.slice none 0 0, .slice none 0 0, .slice none 0 0] 46) = W2 := ⟨_, rfl⟩
  have HL0 := Lib.hid (LW.start w)
  rw [hW2] at HL0
  clear hI hJ hR hM
  go_enter Try.func6, Try.ntmps6
  go_wp2_with fail
  try rw [hW2]
  clear hW2
  go_loopw [7, 8] (fun v i wr => ∃ (k : Nat) (vB : Value) (m : Option Nat) (l : List UInt8) (ns : List ByteArray) (ats : List Nat) (uB uN uA v7 : Value) (zs : List Int), v7 = v ∧ i = .int .i64 (k : Int) ∧ k ≤ len ∧ k ≤ 12 ∧ l.length ≤ k * 4000 ∧ ns.length ≤ k * 60 ∧ Hid (WInv l ns ats) ∧ Hid (∀ p ∈ ns, p.size ≤ 1000) ∧ Hid (Spelled ss k zs l) ∧ Hid (LW w.heap.size w.heap.size (w.heap.size + 1) w wr vB m l ns ats uB uN uA uB uN uA l ns ats v7 zs)) (fun _ i _ => 12 - (intOf i).toNat)
  case atStart => exact ⟨0, _, _, [], [], [], _, _, _, _, [], rfl, rfl, Nat.zero_le _, Nat.zero_le _, Nat.zero_le _, Nat.zero_le _, Lib.hid WInv.nil, Lib.hid (fun p hp => by cases hp), Lib.hid ⟨rfl, fun j hj => absurd hj (by simp)⟩, HL0⟩
  case round =>
    clear HL0
    obtain ⟨k, vB, m, l, ns, ats, uB, uN, uA, v7, zs, rfl, rfl, hk, hk12, hll, hnl, HWI, HSM, HSP, HLW⟩ := hrel
    obtain ⟨aB, cB, hvB⟩ := own_slice HLW.out.rb
    subst hvB
    obtain ⟨aN, cN, hvN⟩ := own_slice HLW.out.rn
    subst hvN
    obtain ⟨aA, cA, hvA⟩ := own_slice HLW.out.ra
    subst hvA
    obtain ⟨a7, c7, hv7⟩ := own_slice HLW.out.pl
    subst hv7
    by_cases hkl : k < len
    · have hd : decide ((k : Int) < (len : Int)) = true := decide_eq_true (by omega)
      have hdn : decide (k < len) = true := decide_eq_true hkl
      by_cases hk2 : k < 12
      · have hd12 : decide ((k : Int) < 12) = true := decide_eq_true (by omega)
        have hd12n : decide (k < 12) = true := decide_eq_true hk2
        rcases HII.out with ⟨_, h0, _⟩ | ⟨x, rfl, hi1, hi2, hi3, hi4, hi5⟩
        · omega
        have hks : k < ss.length := by omega
        have hcw := hi4 k hks
        have hcell : wr.cell? (x.add k) = some (.string (ss.getD k ByteArray.empty)) := by rw [HLW.out.bel.cell (p := x.add k) (World.block_lt_of_cell? w _ hcw)]; exact hcw
        have hsz5 : (ss.getD k ByteArray.empty).size ≤ maxLen := hi5 _ (by rw [List.getD_eq_getElem?_getD, List.getElem?_eq_getElem hks]; exact List.getElem_mem hks)
        have HFE := fun W => Lib.hid (few_any (ss.getD k ByteArray.empty) 40 W hsz5 (by decide))
        have hs40 := few_size (ss.getD k ByteArray.empty) 40
        have hinv := nm8_inv (s := few (ss.getD k ByteArray.empty) 40) HWI.out hs40
        have HSY : Hid (mayN (few (ss.getD k ByteArray.empty) 40) = true → Spelled ss (k + 1) (zs ++ [(l.length : Int)]) (nmAll (few (ss.getD k ByteArray.empty) 40) l ns ats).1) := Lib.hid (fun hm => by
          obtain ⟨_, ⟨tl, ht⟩, _, _, hsp⟩ := hinv
          obtain ⟨nx, hs⟩ := hsp hm
          refine Spelled.snoc (by rw [ht]; exact HSP.out.more tl) _ (.inr ⟨l.length, rfl, hs.lt, hm, nx, hs⟩))
        have HSN : Hid (Spelled ss (k + 1) (zs ++ [-1]) (nmAll (few (ss.getD k ByteArray.empty) 40) l ns ats).1) := Lib.hid (by
          obtain ⟨_, ⟨tl, ht⟩, _, _, hsp⟩ := hinv
          exact Spelled.snoc (by rw [ht]; exact HSP.out.more tl) _ (.inl rfl))
        have HZL := Lib.hid HSP.out.1
        have HW2 := Lib.hid hinv.1
        have HSM2 := Lib.hid (nmAll_small (l := l) (ats := ats) HSM.out hs40)
        have hl3 := hinv.2.2.1
        have hn3 := hinv.2.2.2.1
        generalize ss.getD k ByteArray.empty = p at *
        generalize few p 40 = s at *
        have HLE := Lib.hid (wlen_any HLW.out.wa)
        have HRN := Lib.hid (refName8_any _ _ _ l ns ats s wr w.heap.size HLW.out.rb HLW.out.rn HLW.out.ra HLW.out.sz HWI.out.1 (by omega) (by omega) (fun p hp => Nat.le_trans (HSM.out p hp) (by decide)) HWI.out.2.1 (by omega))
        have HNM := fun W vB m (h : WrAt W w.heap.size w.heap.size vB m l ns ats) hB => Lib.hid (name_any s h (by omega) (by omega) (by omega) HWI.out.1 HWI.out.2.1 hB)
        rw [show (if mayN s = true then nm8 s (labelsB s) ((labelsB s).length + 1) 0 l ns ats else (l, ns, ats)) = nmAll s l ns ats from rfl] at HRN HNM
        generalize nmAll s l ns ats = R at *
        obtain ⟨l3, ns3, ats3⟩ := R
        simp only at HW2 hl3 hn3 HSY HSN HSM2
        have hb1 : (0 : Int) ≤ (k : Int) := by omega
        have hb2 : (k : Int) < (len : Int) := by omega
        have hc0 := HLW.out.box.c0
        have hc1 := HLW.out.box.c1
        have hc2 := HLW.out.box.c2
        clear hi1 hi2 hi3 hi4 hi5 hcw hinv hsz5 hks HWI HSP HSM
        go_wp2_with fail
        refine (HFE _).out.mono ?_
        rintro e w1 ⟨rfl, hw1⟩
        rw [← hw1]
        clear hw1 w1 HFE hcell
        go_wp2_with fail
        refine HLE.out.mono ?_
        rintro e w2 ⟨rfl, hw2⟩
        rw [hw2]
        clear hw2 w2 HLE
        go_wp2_with fail
        refine HRN.out.mono ?_
        rintro e w3 ⟨xB, xN, xA, rfl, hb3, hn3b, ha3, hf3⟩
        have HL3 := Lib.hid (HLW.out.ref hb3 hn3b ha3 hf3)
        obtain ⟨yB, dB, hxB⟩ := own_slice hb3
        subst hxB
        obtain ⟨yN, dN, hxN⟩ := own_slice hn3b
        subst hxN
        obtain ⟨yA, dA, hxA⟩ := own_slice ha3
        subst hxA
        simp only at HL3
        clear hb3 hn3b ha3 hf3 HRN HLW hc0 hc1 hc2
        obtain ⟨X, hX⟩ : ∃ X, w3.alloc (.cells #[.slice yB l3.length dB, .slice yN ns3.length dN, .slice yA ats3.length dA] 46) = X := ⟨_, rfl⟩
        have HBX : Hid (WBox X w3.heap.size (.slice yB l3.length dB) (.slice yN ns3.length dN) (.slice yA ats3.length dA)) := Lib.hid (by rw [← hX]; exact WBox.new w3 _ _ _)
        have HWX : Hid (Below w3.heap.size w3 X) := Lib.hid (by rw [← hX]; exact (Below.refl _ _).alloc (Nat.le_refl _) _)
        go_upto_region 10 with fail
        try rw [hX]
        clear hX
        have HLX := Lib.hid (HL3.out.below HWX.out)
        have hx0 := HBX.out.c0
        have hx1 := HBX.out.c1
        have hx2 := HBX.out.c2
        have hd0 := HLX.out.box.c0
        have hd1 := HLX.out.box.c1
        have hd2 := HLX.out.box.c2
        have he0 := HLX.out.box.f0
        have he1 := HLX.out.box.f1
        have he2 := HLX.out.box.f2
        obtain ⟨Y, hY⟩ : ∃ Y, ((X.setCell ⟨w.heap.size + 1, 0, none⟩ (.slice yB l3.length dB)).setCell ⟨w.heap.size + 1, 1, none⟩ (.slice yN ns3.length dN)).setCell ⟨w.heap.size + 1, 2, none⟩ (.slice yA ats3.length dA) = Y := ⟨_, rfl⟩
        have HLY : Hid (LW w.heap.size w.heap.size (w.heap.size + 1) w Y vB m l ns ats (.slice yB l3.length dB) (.slice yN ns3.length dN) (.slice yA ats3.length dA) (.slice yB l3.length dB) (.slice yN ns3.length dN) (.slice yA ats3.length dA) l3 ns3 ats3 (.slice a7 zs.length c7) zs) := Lib.hid (by rw [← hY]; exact ((HLX.out.set0 _).set1 _).set2 _)
        generalize w3.heap.size = g3 at *
        clear HL3 HWX HLX HBX
        go_upto_region 11 with fail
        try rw [hY]
        clear hY hx0 hx1 hx2 hd0 hd1 hd2 he0 he1 he2
        have HN6 := HNM Y vB m HLY.out.wa HLY.out.sz
        go_wp2_with fail
        refine HN6.out.mono ?_
        rintro e w6 ⟨rfl, vB6, m6, hw6, hf6⟩
        have HL6 := Lib.hid (HLY.out.wrote hw6 hf6)
        simp only at HL6
        clear hw6 hf6 HN6 HNM HLY
        have hne : (mayN s != mayN s) = false := by simp
        cases hmay : mayN s with
        | true =>
          rw [hmay] at hne HSY
          go_upto_region 15 with fail
          obtain ⟨V, hV⟩ : ∃ V, w6.alloc (.cells #[.int .i64 (l.length : Int)] 3) = V := ⟨_, rfl⟩
          have HLV6 : Hid (LW w.heap.size w.heap.size (w.heap.size + 1) w V vB6 m6 l3 ns3 ats3 (.slice yB l3.length dB) (.slice yN ns3.length dN) (.slice yA ats3.length dA) (.slice yB l3.length dB) (.slice yN ns3.length dN) (.slice yA ats3.length dA) l3 ns3 ats3 (.slice a7 zs.length c7) zs) := Lib.hid (by rw [← hV]; exact HL6.out.below ((Below.refl _ _).alloc (Nat.le_refl _) _))
          have HOP := Lib.hid HLV6.out.pl
          have HCZ : Hid (V.cell? ⟨w6.heap.size, 0, none⟩ = some (.int .i64 (l.length : Int))) := Lib.hid (by rw [← hV, World.cell?_alloc_new]; rfl)
          have HNZ : Hid (zs.length ≤ 1000000 ∧ w.heap.size ≤ V.heap.size) := Lib.hid ⟨by rw [HZL.out]; omega, HLV6.out.sz⟩
          go_upto_region 16 with (at_builtin; refine wpList_plain rfl (fun K hK => wp_append_z (l := zs) (p := (l.length : Int)) HOP HCZ HNZ _ _ rfl rfl rfl (fun v8 w8 HOw HGw HFw => hK _ _ ?_)); obtain ⟨zt, hzt⟩ : ∃ zt, zs ++ [(l.length : Int)] = zt := ⟨_, rfl⟩; rw [hzt] at HOw; have HZT := Lib.hid hzt; clear hzt; obtain ⟨a8, c8, hv8⟩ := own_slice HOw.out; subst hv8)
          have HL8 := Lib.hid (HLV6.out.place HOw.out HFw.out)
          have HSP8 : Hid (Spelled ss (k + 1) zt l3) := Lib.hid (by rw [← HZT.out]; exact HSY.out (by first | trivial | rfl))
          clear hV HLV6 HOP HCZ HNZ HOw HGw HFw HZT HSN HSY HL6
          by_cases hkM : k < M
          · have hdM : decide ((k : Int) < (M : Int)) = true := decide_eq_true (by omega)
            have hdMn : decide (k < M) = true := decide_eq_true hkM
            obtain ⟨⟨hr1, hr2, hr3⟩, _⟩ := HRI.out
            have hkr : k < rs.length := by rw [HM.out]; exact hkM
            rcases hr3 with h0 | ⟨y, rfl, hrc⟩
            · omega
            have hrw := hrc k hkr
            have HRC : Hid (∀ W, Below w.heap.size w W → W.cell? (y.add k) = some (.int .u8 ((rs[k].toNat : Nat) : Int))) := Lib.hid (fun W hb => by rw [hb.cell (p := y.add k) (World.block_lt_of_cell? w _ hrw)]; exact hrw)
            have hyb : (y.add k).block < w.heap.size := World.block_lt_of_cell? w _ hrw
            have HYB : Hid ((y.add k).block < w.heap.size) := Lib.hid hyb
            have hu := rs[k].toNat_lt
            have HBU : Hid (bys [rs[k]] = [.int .u8 ((rs[k].toNat : Nat) : Int)]) := Lib.hid rfl
            generalize rs[k] = c at *
            obtain ⟨q, hq⟩ : ∃ q, c.toNat = q := ⟨_, rfl⟩
            rw [hq] at HBU HRC hu
            clear hr1 hr2 hrc hrw hkr hyb hq
            have hrcell := HRC.out w8 HL8.out.bel
            have hbM : (k : Int) < (M : Int) := by omega
            have HLx := Lib.hid (HL8.out.below (w' := w8.alloc (.cells #[.int .u8 (q : Int)] 5)) ((Below.refl _ _).alloc (Nat.le_refl _) _))
            have HC1 : Hid (∀ j u, (bys [c])[j]? = some u → (w8.alloc (.cells #[.int .u8 (q : Int)] 5)).cell? ⟨w8.heap.size, j, none⟩ = some u) := Lib.hid (fun j u hu => cells_new8 w8 [.int .u8 (q : Int)] 5 j u (by rw [← HBU.out]; exact hu))
            have HRA := Lib.hid (raw_any (c := 1) [c] HLx.out.wa HC1.out (by simp; omega) HLx.out.sz)
            obtain ⟨lz, hlz⟩ : ∃ lz, l3 ++ [c] = lz := ⟨_, rfl⟩
            have HLZ := Lib.hid hlz
            have hlzl : lz.length ≤ l3.length + 1 := by rw [← hlz]; simp
            rw [hlz] at HRA
            clear hlz
            go_wp2_with fail
            refine HRA.out.mono ?_
            rintro e w9 ⟨rfl, vB9, hw9, hf9⟩
            have HL9 := Lib.hid (HLx.out.wrote hw9 hf9)
            clear hw9 hf9 HRA HLx HC1 HL8 hrcell
            have HL9d := Lib.hid (HL9.out.below ((Below.refl _ _).drew))
            have HSP9 : Hid (Spelled ss (k + 1) zt lz) := Lib.hid (by rw [← HLZ.out]; exact HSP8.out.more [c])
            have HWI9 : Hid (WInv lz ns3 ats3) := Lib.hid (by rw [← HLZ.out]; exact HW2.out.more [c])
            obtain ⟨S, hS⟩ : ∃ S : World → Prop, (fun W => W.cell? (y.add k) = some (.int .u8 (q : Int))) = S := ⟨_, rfl⟩
            have CL : Hid (∀ w', S w' → w'.cell? (y.add k) = some (.int .u8 (q : Int))) := Lib.hid (fun w' h => by rw [← hS] at h; exact h)
            have HSB : Hid (∀ A', Below w.heap.size w A' → S A') := Lib.hid (fun A' h => by rw [← hS]; exact HRC.out A' h)
            clear hS HL9
            have HSD := Lib.hid (HSB.out w9.drew HL9d.out.bel)
            go_upto_region 18 with fail
            refine wp_region_noPanic ?_
            refine wp_region_held_drew (S := S) (by kernel_rfl) HSD.out (fun hHeld => ?_)
            generalize w9.drew = U at *
            have HLU := Lib.hid (HL9d.out.below (w' := U.alloc (.cells #[.int .u8 (q : Int)] 5)) ((Below.refl _ _).alloc (Nat.le_refl _) _))
            have HO1 := Lib.hid HLU.out.rb
            have HC1 : Hid (∀ j u, (bys [c])[j]? = some u → (U.alloc (.cells #[.int .u8 (q : Int)] 5)).cell? ⟨U.heap.size, j, none⟩ = some u) := Lib.hid (fun j u hu => cells_new8 U [.int .u8 (q : Int)] 5 j u (by rw [← HBU.out]; exact hu))
            have HN1 : Hid (l3.length + ([c] : List UInt8).length ≤ 1000000000 ∧ w.heap.size ≤ (U.alloc (.cells #[.int .u8 (q : Int)] 5)).heap.size) := Lib.hid ⟨by simp; omega, HLU.out.sz⟩
            have hSx := HSB.out _ HLU.out.bel
            have hc0 := HL9d.out.box.c0
            have hx0 := HLU.out.box.c0
            clear HL9d
            refine wpAnyH_take (i := 0) (v := ?_) rfl (by kernel_rfl) (by kernel_rfl) (by kernel_rfl) (fun _ _ _ h => h) (Or.inl ⟨by rfl, ?_⟩) (by assumption) ?_
            rotate_left
            · (intro w hSw; go_simp; try (with_reducible rfl))
            try simp only [Act.put, List.getElem_toArray, List.getElem_cons_zero, List.setIfInBounds_toArray, List.set_cons_zero, List.set_cons_succ]
            refine wpAnyH_take (i := 2) (v := ?_) rfl (by kernel_rfl) (by kernel_rfl) (by kernel_rfl) (fun _ _ _ h => h) (Or.inl ⟨by rfl, ?_⟩) (by assumption) ?_
            rotate_left
            · (intro w hSw; go_simp; try (with_reducible rfl))
            try simp only [Act.put, List.getElem_toArray, List.getElem_cons_zero, List.getElem_cons_succ, List.setIfInBounds_toArray, List.set_cons_zero, List.set_cons_succ]
            refine wpAnyH_take (i := 3) (v := ?_) rfl (by kernel_rfl) (by kernel_rfl) (by kernel_rfl) (fun _ _ _ h => h) (Or.inl ⟨by rfl, ?_⟩) (by assumption) ?_
            rotate_left
            · (intro w hSw; go_simp; try (with_reducible rfl))
            try simp only [Act.put, List.getElem_toArray, List.getElem_cons_zero, List.getElem_cons_succ, List.setIfInBounds_toArray, List.set_cons_zero, List.set_cons_succ]
            refine wpAnyH_take (i := 4) (v := ?_) rfl (by kernel_rfl) (by kernel_rfl) (by kernel_rfl) (fun _ _ _ h => h) (Or.inl ⟨by rfl, ?_⟩) (by assumption) ?_
            rotate_left
            · (intro w hSw; go_simp; try (with_reducible rfl))
            try simp only [Act.put, List.getElem_toArray, List.getElem_cons_zero, List.getElem_cons_succ, List.setIfInBounds_toArray, List.set_cons_zero, List.set_cons_succ]
            refine wpAnyH_take (i := 5) (v := ?_) rfl (by kernel_rfl) (by kernel_rfl) (by kernel_rfl) (fun _ _ _ h => h) (Or.inl ⟨by rfl, ?_⟩) (by assumption) ?_
            rotate_left
            · (intro w hSw; have hc0 := CL.out w hSw; go_simp; try (with_reducible rfl))
            try simp only [Act.put, List.getElem_toArray, List.getElem_cons_zero, List.getElem_cons_succ, List.setIfInBounds_toArray, List.set_cons_zero, List.set_cons_succ]
            refine wpAnyH_ready (rs := [1, 6]) (by kernel_rfl) (by simp) ?_
            refine AllReadyH.cons rfl (fun K hK => ?_) (ready_one rfl rfl (fun K hK => ?_))
            · rw [if_pos (by rfl)]
              go_wp2_with fail
              refine hK.out _ _ hHeld (fun hHeld1 => ?_)
              clear hK K
              try simp only [Act.put, List.getElem_toArray, List.getElem_cons_zero, List.getElem_cons_succ, List.setIfInBounds_toArray, List.set_cons_zero, List.set_cons_succ]
              refine wpAnyH_ready (rs := [6]) (by kernel_rfl) (by simp) ?_
              refine ready_one rfl rfl (fun K hK => ?_)
              go_wp2_with fail
              refine hK.out _ _ hSx (fun hHeld2 => ?_)
              clear hK K
              try simp only [Act.put, List.getElem_toArray, List.getElem_cons_zero, List.getElem_cons_succ, List.setIfInBounds_toArray, List.set_cons_zero, List.set_cons_succ]
              refine wpAnyH_ready (rs := [7]) (by kernel_rfl) (by simp) ?_
              refine ready_one rfl rfl (fun K hK => ?_)
              refine wp_append_bytes (m := [c]) HO1 HC1 HN1 _ _ rfl rfl rfl (fun v6 wz HOw HGw HFw => ?_)
              rw [HLZ.out] at HOw
              obtain ⟨a6, c6, hv6⟩ := own_slice HOw.out
              subst hv6
              have HLz := Lib.hid (HLU.out.refB HOw.out HGw.out HFw.out)
              have hcc := HLz.out.box.c0
              have hcf := HLz.out.box.f0
              have hS6 := HSB.out _ HLz.out.bel
              refine hK.out _ _ hS6 (fun hHeld6 => ?_)
              clear hK K
              try simp only [Act.put, List.getElem_toArray, List.getElem_cons_zero, List.getElem_cons_succ, List.setIfInBounds_toArray, List.set_cons_zero, List.set_cons_succ]
              refine wpAnyH_take (i := 8) (v := ?_) rfl (by kernel_rfl) (by kernel_rfl) (by kernel_rfl) (fun _ _ _ h => h) (Or.inl ⟨by rfl, ?_⟩) (by assumption) ?_
              rotate_left
              · (intro w hSw; go_simp; try (with_reducible rfl))
              try simp only [Act.put, List.getElem_toArray, List.getElem_cons_zero, List.getElem_cons_succ, List.setIfInBounds_toArray, List.set_cons_zero, List.set_cons_succ]
              have HLq := Lib.hid (HLz.out.set0 (.slice a6 lz.length c6))
              have hS7 := HSB.out _ HLq.out.bel
              refine wpAnyH_ready (rs := [9]) (by kernel_rfl) (by simp) ?_
              refine ready_one rfl rfl (fun K hK => ?_)
              go_wp2_with fail
              refine hK.out _ _ hS7 (fun hHeld7 => ?_)
              clear hK K HO1 HC1 HN1 HOw HGw HFw hcc hcf HLU HLz
              try simp only [Act.put, List.getElem_toArray, List.getElem_cons_zero, List.getElem_cons_succ]
              refine wpAnyH_done (by kernel_rfl) ?_ _
              refine NoPanic.normal ?_
              generalize (wz.setCell ⟨w.heap.size + 1, 0, none⟩ (.slice a6 lz.length c6)) = V6 at *
              clear HSP8 HW2 HSB CL HRC HLZ hS7 hS6 hSx hc0 hx0
              go_wp2_with fail
              go_roundw
              case rel => exact ⟨k + 1, _, _, lz, ns3, ats3, _, _, _, _, zt, rfl, by go_num, by omega, by omega, by omega, by omega, HWI9, HSM2, HSP9, HLq⟩
              case measure => simp [intOf]; omega
            · go_wp2_with fail
              refine hK.out _ _ hSx (fun hHeld1 => ?_)
              clear hK K
              try simp only [Act.put, List.getElem_toArray, List.getElem_cons_zero, List.getElem_cons_succ, List.setIfInBounds_toArray, List.set_cons_zero, List.set_cons_succ]
              generalize (U.alloc (.cells #[.int .u8 (q : Int)] 5)) = U2 at *
              generalize U.heap.size = GX at *
              refine wpAnyH_ready (rs := [1]) (by kernel_rfl) (by simp) ?_
              refine AllReadyH.cons rfl (fun K hK => ?_) AllReadyH.nil
              rw [if_pos (by rfl)]
              go_wp2_with fail
              refine hK.out _ _ hSx (fun hHeld2 => ?_)
              clear hK K
              try simp only [Act.put, List.getElem_toArray, List.getElem_cons_zero, List.getElem_cons_succ, List.setIfInBounds_toArray, List.set_cons_zero, List.set_cons_succ]
              refine wpAnyH_ready (rs := [7]) (by kernel_rfl) (by simp) ?_
              refine ready_one rfl rfl (fun K hK => ?_)
              refine wp_append_bytes (m := [c]) HO1 HC1 HN1 _ _ rfl rfl rfl (fun v6 wz HOw HGw HFw => ?_)
              rw [HLZ.out] at HOw
              obtain ⟨a6, c6, hv6⟩ := own_slice HOw.out
              subst hv6
              have HLz := Lib.hid (HLU.out.refB HOw.out HGw.out HFw.out)
              have hcc := HLz.out.box.c0
              have hcf := HLz.out.box.f0
              have hS6 := HSB.out _ HLz.out.bel
              refine hK.out _ _ hS6 (fun hHeld6 => ?_)
              clear hK K
              try simp only [Act.put, List.getElem_toArray, List.getElem_cons_zero, List.getElem_cons_succ, List.setIfInBounds_toArray, List.set_cons_zero, List.set_cons_succ]
              refine wpAnyH_take (i := 8) (v := ?_) rfl (by kernel_rfl) (by kernel_rfl) (by kernel_rfl) (fun _ _ _ h => h) (Or.inl ⟨by rfl, ?_⟩) (by assumption) ?_
              rotate_left
              · (intro w hSw; go_simp; try (with_reducible rfl))
              try simp only [Act.put, List.getElem_toArray, List.getElem_cons_zero, List.getElem_cons_succ, List.setIfInBounds_toArray, List.set_cons_zero, List.set_cons_succ]
              have HLq := Lib.hid (HLz.out.set0 (.slice a6 lz.length c6))
              have hS7 := HSB.out _ HLq.out.bel
              refine wpAnyH_ready (rs := [9]) (by kernel_rfl) (by simp) ?_
              refine ready_one rfl rfl (fun K hK => ?_)
              go_wp2_with fail
              refine hK.out _ _ hS7 (fun hHeld7 => ?_)
              clear hK K HO1 HC1 HN1 HOw HGw HFw hcc hcf HLU HLz
              try simp only [Act.put, List.getElem_toArray, List.getElem_cons_zero, List.getElem_cons_succ]
              refine wpAnyH_done (by kernel_rfl) ?_ _
              refine NoPanic.normal ?_
              generalize (wz.setCell ⟨w.heap.size + 1, 0, none⟩ (.slice a6 lz.length c6)) = V6 at *
              clear HSP8 HW2 HSB CL HRC HLZ hS7 hS6 hSx hc0 hx0
              go_wp2_with fail
              go_roundw
              case rel => exact ⟨k + 1, _, _, lz, ns3, ats3, _, _, _, _, zt, rfl, by go_num, by omega, by omega, by omega, by omega, HWI9, HSM2, HSP9, HLq⟩
              case measure => simp [intOf]; omega
          · have hdM : decide ((k : Int) < (M : Int)) = false := decide_eq_false (by omega)
            have hdMn : decide (k < M) = false := decide_eq_false hkM
            go_wp2_with fail
            go_roundw
            case rel => exact ⟨k + 1, _, _, l3, ns3, ats3, _, _, _, _, zt, rfl, by go_num, by omega, by omega, by omega, by omega, HW2, HSM2, HSP8, HL8⟩
            case measure => simp [intOf]; omega
        | false =>
          rw [hmay] at hne HSY
          go_upto_region 15 with fail
          obtain ⟨V, hV⟩ : ∃ V, w6.alloc (.cells #[.int .i64 (-1)] 3) = V := ⟨_, rfl⟩
          have HLV6 : Hid (LW w.heap.size w.heap.size (w.heap.size + 1) w V vB6 m6 l3 ns3 ats3 (.slice yB l3.length dB) (.slice yN ns3.length dN) (.slice yA ats3.length dA) (.slice yB l3.length dB) (.slice yN ns3.length dN) (.slice yA ats3.length dA) l3 ns3 ats3 (.slice a7 zs.length c7) zs) := Lib.hid (by rw [← hV]; exact HL6.out.below ((Below.refl _ _).alloc (Nat.le_refl _) _))
          have HOP := Lib.hid HLV6.out.pl
          have HCZ : Hid (V.cell? ⟨w6.heap.size, 0, none⟩ = some (.int .i64 (-1))) := Lib.hid (by rw [← hV, World.cell?_alloc_new]; rfl)
          have HNZ : Hid (zs.length ≤ 1000000 ∧ w.heap.size ≤ V.heap.size) := Lib.hid ⟨by rw [HZL.out]; omega, HLV6.out.sz⟩
          go_upto_region 16 with (at_builtin; refine wpList_plain rfl (fun K hK => wp_append_z (l := zs) (p := (-1)) HOP HCZ HNZ _ _ rfl rfl rfl (fun v8 w8 HOw HGw HFw => hK _ _ ?_)); obtain ⟨zt, hzt⟩ : ∃ zt, zs ++ [(-1)] = zt := ⟨_, rfl⟩; rw [hzt] at HOw; have HZT := Lib.hid hzt; clear hzt; obtain ⟨a8, c8, hv8⟩ := own_slice HOw.out; subst hv8)
          have HL8 := Lib.hid (HLV6.out.place HOw.out HFw.out)
          have HSP8 : Hid (Spelled ss (k + 1) zt l3) := Lib.hid (by rw [← HZT.out]; exact HSN.out)
          clear hV HLV6 HOP HCZ HNZ HOw HGw HFw HZT HSN HSY HL6
          by_cases hkM : k < M
          · have hdM : decide ((k : Int) < (M : Int)) = true := decide_eq_true (by omega)
            have hdMn : decide (k < M) = true := decide_eq_true hkM
            obtain ⟨⟨hr1, hr2, hr3⟩, _⟩ := HRI.out
            have hkr : k < rs.length := by rw [HM.out]; exact hkM
            rcases hr3 with h0 | ⟨y, rfl, hrc⟩
            · omega
            have hrw := hrc k hkr
            have HRC : Hid (∀ W, Below w.heap.size w W → W.cell? (y.add k) = some (.int .u8 ((rs[k].toNat : Nat) : Int))) := Lib.hid (fun W hb => by rw [hb.cell (p := y.add k) (World.block_lt_of_cell? w _ hrw)]; exact hrw)
            have hyb : (y.add k).block < w.heap.size := World.block_lt_of_cell? w _ hrw
            have HYB : Hid ((y.add k).block < w.heap.size) := Lib.hid hyb
            have hu := rs[k].toNat_lt
            have HBU : Hid (bys [rs[k]] = [.int .u8 ((rs[k].toNat : Nat) : Int)]) := Lib.hid rfl
            generalize rs[k] = c at *
            obtain ⟨q, hq⟩ : ∃ q, c.toNat = q := ⟨_, rfl⟩
            rw [hq] at HBU HRC hu
            clear hr1 hr2 hrc hrw hkr hyb hq
            have hrcell := HRC.out w8 HL8.out.bel
            have hbM : (k : Int) < (M : Int) := by omega
            have HLx := Lib.hid (HL8.out.below (w' := w8.alloc (.cells #[.int .u8 (q : Int)] 5)) ((Below.refl _ _).alloc (Nat.le_refl _) _))
            have HC1 : Hid (∀ j u, (bys [c])[j]? = some u → (w8.alloc (.cells #[.int .u8 (q : Int)] 5)).cell? ⟨w8.heap.size, j, none⟩ = some u) := Lib.hid (fun j u hu => cells_new8 w8 [.int .u8 (q : Int)] 5 j u (by rw [← HBU.out]; exact hu))
            have HRA := Lib.hid (raw_any (c := 1) [c] HLx.out.wa HC1.out (by simp; omega) HLx.out.sz)
            obtain ⟨lz, hlz⟩ : ∃ lz, l3 ++ [c] = lz := ⟨_, rfl⟩
            have HLZ := Lib.hid hlz
            have hlzl : lz.length ≤ l3.length + 1 := by rw [← hlz]; simp
            rw [hlz] at HRA
            clear hlz
            go_wp2_with fail
            refine HRA.out.mono ?_
            rintro e w9 ⟨rfl, vB9, hw9, hf9⟩
            have HL9 := Lib.hid (HLx.out.wrote hw9 hf9)
            clear hw9 hf9 HRA HLx HC1 HL8 hrcell
            have HL9d := Lib.hid (HL9.out.below ((Below.refl _ _).drew))
            have HSP9 : Hid (Spelled ss (k + 1) zt lz) := Lib.hid (by rw [← HLZ.out]; exact HSP8.out.more [c])
            have HWI9 : Hid (WInv lz ns3 ats3) := Lib.hid (by rw [← HLZ.out]; exact HW2.out.more [c])
            obtain ⟨S, hS⟩ : ∃ S : World → Prop, (fun W => W.cell? (y.add k) = some (.int .u8 (q : Int))) = S := ⟨_, rfl⟩
            have CL : Hid (∀ w', S w' → w'.cell? (y.add k) = some (.int .u8 (q : Int))) := Lib.hid (fun w' h => by rw [← hS] at h; exact h)
            have HSB : Hid (∀ A', Below w.heap.size w A' → S A') := Lib.hid (fun A' h => by rw [← hS]; exact HRC.out A' h)
            clear hS HL9
            have HSD := Lib.hid (HSB.out w9.drew HL9d.out.bel)
            go_upto_region 18 with fail
            refine wp_region_noPanic ?_
            refine wp_region_held_drew (S := S) (by kernel_rfl) HSD.out (fun hHeld => ?_)
            generalize w9.drew = U at *
            have HLU := Lib.hid (HL9d.out.below (w' := U.alloc (.cells #[.int .u8 (q : Int)] 5)) ((Below.refl _ _).alloc (Nat.le_refl _) _))
            have HO1 := Lib.hid HLU.out.rb
            have HC1 : Hid (∀ j u, (bys [c])[j]? = some u → (U.alloc (.cells #[.int .u8 (q : Int)] 5)).cell? ⟨U.heap.size, j, none⟩ = some u) := Lib.hid (fun j u hu => cells_new8 U [.int .u8 (q : Int)] 5 j u (by rw [← HBU.out]; exact hu))
            have HN1 : Hid (l3.length + ([c] : List UInt8).length ≤ 1000000000 ∧ w.heap.size ≤ (U.alloc (.cells #[.int .u8 (q : Int)] 5)).heap.size) := Lib.hid ⟨by simp; omega, HLU.out.sz⟩
            have hSx := HSB.out _ HLU.out.bel
            have hc0 := HL9d.out.box.c0
            have hx0 := HLU.out.box.c0
            clear HL9d
            refine wpAnyH_take (i := 0) (v := ?_) rfl (by kernel_rfl) (by kernel_rfl) (by kernel_rfl) (fun _ _ _ h => h) (Or.inl ⟨by rfl, ?_⟩) (by assumption) ?_
            rotate_left
            · (intro w hSw; go_simp; try (with_reducible rfl))
            try simp only [Act.put, List.getElem_toArray, List.getElem_cons_zero, List.setIfInBounds_toArray, List.set_cons_zero, List.set_cons_succ]
            refine wpAnyH_take (i := 2) (v := ?_) rfl (by kernel_rfl) (by kernel_rfl) (by kernel_rfl) (fun _ _ _ h => h) (Or.inl ⟨by rfl, ?_⟩) (by assumption) ?_
            rotate_left
            · (intro w hSw; go_simp; try (with_reducible rfl))
            try simp only [Act.put, List.getElem_toArray, List.getElem_cons_zero, List.getElem_cons_succ, List.setIfInBounds_toArray, List.set_cons_zero, List.set_cons_succ]
            refine wpAnyH_take (i := 3) (v := ?_) rfl (by kernel_rfl) (by kernel_rfl) (by kernel_rfl) (fun _ _ _ h => h) (Or.inl ⟨by rfl, ?_⟩) (by assumption) ?_
            rotate_left
            · (intro w hSw; go_simp; try (with_reducible rfl))
            try simp only [Act.put, List.getElem_toArray, List.getElem_cons_zero, List.getElem_cons_succ, List.setIfInBounds_toArray, List.set_cons_zero, List.set_cons_succ]
            refine wpAnyH_take (i := 4) (v := ?_) rfl (by kernel_rfl) (by kernel_rfl) (by kernel_rfl) (fun _ _ _ h => h) (Or.inl ⟨by rfl, ?_⟩) (by assumption) ?_
            rotate_left
            · (intro w hSw; go_simp; try (with_reducible rfl))
            try simp only [Act.put, List.getElem_toArray, List.getElem_cons_zero, List.getElem_cons_succ, List.setIfInBounds_toArray, List.set_cons_zero, List.set_cons_succ]
            refine wpAnyH_take (i := 5) (v := ?_) rfl (by kernel_rfl) (by kernel_rfl) (by kernel_rfl) (fun _ _ _ h => h) (Or.inl ⟨by rfl, ?_⟩) (by assumption) ?_
            rotate_left
            · (intro w hSw; have hc0 := CL.out w hSw; go_simp; try (with_reducible rfl))
            try simp only [Act.put, List.getElem_toArray, List.getElem_cons_zero, List.getElem_cons_succ, List.setIfInBounds_toArray, List.set_cons_zero, List.set_cons_succ]
            refine wpAnyH_ready (rs := [1, 6]) (by kernel_rfl) (by simp) ?_
            refine AllReadyH.cons rfl (fun K hK => ?_) (ready_one rfl rfl (fun K hK => ?_))
            · rw [if_pos (by rfl)]
              go_wp2_with fail
              refine hK.out _ _ hHeld (fun hHeld1 => ?_)
              clear hK K
              try simp only [Act.put, List.getElem_toArray, List.getElem_cons_zero, List.getElem_cons_succ, List.setIfInBounds_toArray, List.set_cons_zero, List.set_cons_succ]
              refine wpAnyH_ready (rs := [6]) (by kernel_rfl) (by simp) ?_
              refine ready_one rfl rfl (fun K hK => ?_)
              go_wp2_with fail
              refine hK.out _ _ hSx (fun hHeld2 => ?_)
              clear hK K
              try simp only [Act.put, List.getElem_toArray, List.getElem_cons_zero, List.getElem_cons_succ, List.setIfInBounds_toArray, List.set_cons_zero, List.set_cons_succ]
              refine wpAnyH_ready (rs := [7]) (by kernel_rfl) (by simp) ?_
              refine ready_one rfl rfl (fun K hK => ?_)
              refine wp_append_bytes (m := [c]) HO1 HC1 HN1 _ _ rfl rfl rfl (fun v6 wz HOw HGw HFw => ?_)
              rw [HLZ.out] at HOw
              obtain ⟨a6, c6, hv6⟩ := own_slice HOw.out
              subst hv6
              have HLz := Lib.hid (HLU.out.refB HOw.out HGw.out HFw.out)
              have hcc := HLz.out.box.c0
              have hcf := HLz.out.box.f0
              have hS6 := HSB.out _ HLz.out.bel
              refine hK.out _ _ hS6 (fun hHeld6 => ?_)
              clear hK K
              try simp only [Act.put, List.getElem_toArray, List.getElem_cons_zero, List.getElem_cons_succ, List.setIfInBounds_toArray, List.set_cons_zero, List.set_cons_succ]
              refine wpAnyH_take (i := 8) (v := ?_) rfl (by kernel_rfl) (by kernel_rfl) (by kernel_rfl) (fun _ _ _ h => h) (Or.inl ⟨by rfl, ?_⟩) (by assumption) ?_
              rotate_left
              · (intro w hSw; go_simp; try (with_reducible rfl))
              try simp only [Act.put, List.getElem_toArray, List.getElem_cons_zero, List.getElem_cons_succ, List.setIfInBounds_toArray, List.set_cons_zero, List.set_cons_succ]
              have HLq := Lib.hid (HLz.out.set0 (.slice a6 lz.length c6))
              have hS7 := HSB.out _ HLq.out.bel
              refine wpAnyH_ready (rs := [9]) (by kernel_rfl) (by simp) ?_
              refine ready_one rfl rfl (fun K hK => ?_)
              go_wp2_with fail
              refine hK.out _ _ hS7 (fun hHeld7 => ?_)
              clear hK K HO1 HC1 HN1 HOw HGw HFw hcc hcf HLU HLz
              try simp only [Act.put, List.getElem_toArray, List.getElem_cons_zero, List.getElem_cons_succ]
              refine wpAnyH_done (by kernel_rfl) ?_ _
              refine NoPanic.normal ?_
              generalize (wz.setCell ⟨w.heap.size + 1, 0, none⟩ (.slice a6 lz.length c6)) = V6 at *
              clear HSP8 HW2 HSB CL HRC HLZ hS7 hS6 hSx hc0 hx0
              go_wp2_with fail
              go_roundw
              case rel => exact ⟨k + 1, _, _, lz, ns3, ats3, _, _, _, _, zt, rfl, by go_num, by omega, by omega, by omega, by omega, HWI9, HSM2, HSP9, HLq⟩
              case measure => simp [intOf]; omega
            · go_wp2_with fail
              refine hK.out _ _ hSx (fun hHeld1 => ?_)
              clear hK K
              try simp only [Act.put, List.getElem_toArray, List.getElem_cons_zero, List.getElem_cons_succ, List.setIfInBounds_toArray, List.set_cons_zero, List.set_cons_succ]
              generalize (U.alloc (.cells #[.int .u8 (q : Int)] 5)) = U2 at *
              generalize U.heap.size = GX at *
              refine wpAnyH_ready (rs := [1]) (by kernel_rfl) (by simp) ?_
              refine AllReadyH.cons rfl (fun K hK => ?_) AllReadyH.nil
              rw [if_pos (by rfl)]
              go_wp2_with fail
              refine hK.out _ _ hSx (fun hHeld2 => ?_)
              clear hK K
              try simp only [Act.put, List.getElem_toArray, List.getElem_cons_zero, List.getElem_cons_succ, List.setIfInBounds_toArray, List.set_cons_zero, List.set_cons_succ]
              refine wpAnyH_ready (rs := [7]) (by kernel_rfl) (by simp) ?_
              refine ready_one rfl rfl (fun K hK => ?_)
              refine wp_append_bytes (m := [c]) HO1 HC1 HN1 _ _ rfl rfl rfl (fun v6 wz HOw HGw HFw => ?_)
              rw [HLZ.out] at HOw
              obtain ⟨a6, c6, hv6⟩ := own_slice HOw.out
              subst hv6
              have HLz := Lib.hid (HLU.out.refB HOw.out HGw.out HFw.out)
              have hcc := HLz.out.box.c0
              have hcf := HLz.out.box.f0
              have hS6 := HSB.out _ HLz.out.bel
              refine hK.out _ _ hS6 (fun hHeld6 => ?_)
              clear hK K
              try simp only [Act.put, List.getElem_toArray, List.getElem_cons_zero, List.getElem_cons_succ, List.setIfInBounds_toArray, List.set_cons_zero, List.set_cons_succ]
              refine wpAnyH_take (i := 8) (v := ?_) rfl (by kernel_rfl) (by kernel_rfl) (by kernel_rfl) (fun _ _ _ h => h) (Or.inl ⟨by rfl, ?_⟩) (by assumption) ?_
              rotate_left
              · (intro w hSw; go_simp; try (with_reducible rfl))
              try simp only [Act.put, List.getElem_toArray, List.getElem_cons_zero, List.getElem_cons_succ, List.setIfInBounds_toArray, List.set_cons_zero, List.set_cons_succ]
              have HLq := Lib.hid (HLz.out.set0 (.slice a6 lz.length c6))
              have hS7 := HSB.out _ HLq.out.bel
              refine wpAnyH_ready (rs := [9]) (by kernel_rfl) (by simp) ?_
              refine ready_one rfl rfl (fun K hK => ?_)
              go_wp2_with fail
              refine hK.out _ _ hS7 (fun hHeld7 => ?_)
              clear hK K HO1 HC1 HN1 HOw HGw HFw hcc hcf HLU HLz
              try simp only [Act.put, List.getElem_toArray, List.getElem_cons_zero, List.getElem_cons_succ]
              refine wpAnyH_done (by kernel_rfl) ?_ _
              refine NoPanic.normal ?_
              generalize (wz.setCell ⟨w.heap.size + 1, 0, none⟩ (.slice a6 lz.length c6)) = V6 at *
              clear HSP8 HW2 HSB CL HRC HLZ hS7 hS6 hSx hc0 hx0
              go_wp2_with fail
              go_roundw
              case rel => exact ⟨k + 1, _, _, lz, ns3, ats3, _, _, _, _, zt, rfl, by go_num, by omega, by omega, by omega, by omega, HWI9, HSM2, HSP9, HLq⟩
              case measure => simp [intOf]; omega
          · have hdM : decide ((k : Int) < (M : Int)) = false := decide_eq_false (by omega)
            have hdMn : decide (k < M) = false := decide_eq_false hkM
            go_wp2_with fail
            go_roundw
            case rel => exact ⟨k + 1, _, _, l3, ns3, ats3, _, _, _, _, zt, rfl, by go_num, by omega, by omega, by omega, by omega, HW2, HSM2, HSP8, HL8⟩
            case measure => simp [intOf]; omega
      · have hd12 : decide ((k : Int) < 12) = false := decide_eq_false (by omega)
        have hd12n : decide (k < 12) = false := decide_eq_false hk2
        have hl5 : l.length ≤ 100000 := by omega
        have HBY := Lib.hid (wbytes_any HLW.out.wa (by omega))
        obtain ⟨K7, hK7⟩ : ∃ K7, zs.length = K7 := ⟨_, rfl⟩
        have HK7 := Lib.hid hK7
        have hkz := HSP.out.1
        rw [hK7] at hkz
        rw [hK7]
        clear hK7
        go_wp2_with fail
        refine HBY.out.mono ?_
        rintro e w1 ⟨v13, rfl, ho, hb1⟩
        have HL1 := Lib.hid (HLW.out.below (hb1.drew))
        obtain ⟨a13, c13, hv13, hbi⟩ := in_own ho
        subst hv13
        have HBI : Hid (BytesIn2 w1.drew a13 c13 l) := Lib.hid (hbi.below ((Below.refl _ _).drew))
        have HSA : Hid (Calls Try.prog 20 #[.slice a13 l.length c13, .slice aB l.length cB] w1.drew fun e w' => e = .returned (.bool true) ∧ w' = w1.drew) := Lib.hid (by
          have := refSameBytes_any _ _ _ _ w1.drew (own_at (own_below8 ho ((Below.refl _ _).drew))) (own_at HL1.out.rb)
          rw [decide_eq_true rfl] at this
          exact this)
        have HLE := Lib.hid (wlen_any HL1.out.wa)
        have hcd := HL1.out.box.c0
        clear ho hb1 hbi HBY HLW
        obtain ⟨Z, hZ⟩ : ∃ Z, l.length = Z := ⟨_, rfl⟩
        have HZ := Lib.hid hZ
        rw [hZ] at HSA HLE hcd hl5 ⊢
        have hnz : ((Z : Int) != (Z : Int)) = false := by simp
        clear hZ hll
        go_upto_region 20 with fail
        refine wp_region_noPanic ?_
        obtain ⟨S, hS⟩ : ∃ S : World → Prop, (fun W => W = w1.drew) = S := ⟨_, rfl⟩
        have C0 : Hid (∀ w', S w' → w'.cell? ⟨w.heap.size + 1, 0, none⟩ = some (.slice aB Z cB)) := Lib.hid (fun w' h => by rw [← hS] at h; rw [h]; exact hcd)
        have HSS : Hid (S w1.drew) := Lib.hid (by rw [← hS])
        clear hS hcd
        refine wp_region_held_drew (S := S) (by kernel_rfl) HSS.out (fun hHeld => ?_)
        generalize w1.drew = U at *
        refine wpAnyH_take (i := 0) (v := ?_) rfl (by kernel_rfl) (by kernel_rfl) (by kernel_rfl) (fun _ _ _ h => h) (Or.inl ⟨by rfl, ?_⟩) (by assumption) ?_
        rotate_left
        · (intro w hSw; go_simp; try (with_reducible rfl))
        try simp only [Act.put, List.getElem_toArray, List.getElem_cons_zero, List.setIfInBounds_toArray, List.set_cons_zero, List.set_cons_succ]
        refine wpAnyH_take (i := 1) (v := ?_) rfl (by kernel_rfl) (by kernel_rfl) (by kernel_rfl) (fun _ _ _ h => h) (Or.inl ⟨by rfl, ?_⟩) (by assumption) ?_
        rotate_left
        · (intro w hSw; go_simp; try (with_reducible rfl))
        try simp only [Act.put, List.getElem_toArray, List.getElem_cons_zero, List.getElem_cons_succ, List.setIfInBounds_toArray, List.set_cons_zero, List.set_cons_succ]
        refine wpAnyH_take (i := 2) (v := ?_) rfl (by kernel_rfl) (by kernel_rfl) (by kernel_rfl) (fun _ _ _ h => h) (Or.inl ⟨by rfl, ?_⟩) (by assumption) ?_
        rotate_left
        · (intro w hSw; have hc0 := C0.out w hSw; go_simp; try (with_reducible rfl))
        try simp only [Act.put, List.getElem_toArray, List.getElem_cons_zero, List.getElem_cons_succ, List.setIfInBounds_toArray, List.set_cons_zero, List.set_cons_succ]
        refine wpAnyH_ready (rs := [3]) (by kernel_rfl) (by simp) ?_
        refine AllReadyH.cons rfl (fun K hK => ?_) AllReadyH.nil
        go_simp
        refine HSA.out.mono ?_
        rintro e w2 ⟨rfl, hw2⟩
        rw [hw2]
        clear hw2 w2 HSA
        go_wp2_with fail
        refine hK.out _ _ HSS.out (fun hHeld => ?_)
        clear hK K
        try simp only [Act.put, List.getElem_toArray, List.getElem_cons_zero, List.getElem_cons_succ, List.setIfInBounds_toArray, List.set_cons_zero, List.set_cons_succ]
        refine wpAnyH_take (i := 4) (v := ?_) rfl (by kernel_rfl) (by kernel_rfl) (by kernel_rfl) (fun _ _ _ h => h) (Or.inl ⟨by rfl, ?_⟩) (by assumption) ?_
        rotate_left
        · (intro w hSw; go_simp; try (with_reducible rfl))
        try simp only [Act.put, List.getElem_toArray, List.getElem_cons_zero, List.getElem_cons_succ, List.setIfInBounds_toArray, List.set_cons_zero, List.set_cons_succ]
        refine wpAnyH_take (i := 5) (v := ?_) rfl (by kernel_rfl) (by kernel_rfl) (by kernel_rfl) (fun _ _ _ h => h) (Or.inl ⟨by rfl, ?_⟩) (by assumption) ?_
        rotate_left
        · (intro w hSw; go_simp; try (with_reducible rfl))
        try simp only [Act.put, List.getElem_toArray, List.getElem_cons_zero, List.getElem_cons_succ, List.setIfInBounds_toArray, List.set_cons_zero, List.set_cons_succ]
        refine wpAnyH_take (i := 7) (v := ?_) rfl (by kernel_rfl) (by kernel_rfl) (by kernel_rfl) (fun _ _ _ h => h) (Or.inl ⟨by rfl, ?_⟩) (by assumption) ?_
        rotate_left
        · (intro w hSw; go_simp; try (with_reducible rfl))
        try simp only [Act.put, List.getElem_toArray, List.getElem_cons_zero, List.getElem_cons_succ, List.setIfInBounds_toArray, List.set_cons_zero, List.set_cons_succ]
        refine wpAnyH_take (i := 8) (v := ?_) rfl (by kernel_rfl) (by kernel_rfl) (by kernel_rfl) (fun _ _ _ h => h) (Or.inl ⟨by rfl, ?_⟩) (by assumption) ?_
        rotate_left
        · (intro w hSw; have hc0 := C0.out w hSw; go_simp; try (with_reducible rfl))
        try simp only [Act.put, List.getElem_toArray, List.getElem_cons_zero, List.getElem_cons_succ, List.setIfInBounds_toArray, List.set_cons_zero, List.set_cons_succ]
        refine wpAnyH_take (i := 9) (v := ?_) rfl (by kernel_rfl) (by kernel_rfl) (by kernel_rfl) (fun _ _ _ h => h) (Or.inl ⟨by rfl, ?_⟩) (by assumption) ?_
        rotate_left
        · (intro w hSw; go_simp; try (with_reducible rfl))
        try simp only [Act.put, List.getElem_toArray, List.getElem_cons_zero, List.getElem_cons_succ, List.setIfInBounds_toArray, List.set_cons_zero, List.set_cons_succ]
        refine wpAnyH_ready (rs := [6]) (by kernel_rfl) (by simp) ?_
        refine AllReadyH.cons rfl (fun K hK => ?_) AllReadyH.nil
        go_simp
        refine HLE.out.mono ?_
        rintro e w2 ⟨rfl, hw2⟩
        rw [hw2]
        clear hw2 w2 HLE
        go_wp2_with fail
        refine hK.out _ _ HSS.out (fun hHeld => ?_)
        clear hK K
        try simp only [Act.put, List.getElem_toArray, List.getElem_cons_zero, List.getElem_cons_succ, List.setIfInBounds_toArray, List.set_cons_zero, List.set_cons_succ]
        refine wpAnyH_take (i := 10) (v := ?_) rfl (by kernel_rfl) (by kernel_rfl) (by kernel_rfl) (fun _ _ _ h => h) (Or.inl ⟨by rfl, ?_⟩) (by assumption) ?_
        rotate_left
        · (intro w hSw; go_simp; try (with_reducible rfl))
        try simp only [Act.put, List.getElem_toArray, List.getElem_cons_zero, List.getElem_cons_succ, List.setIfInBounds_toArray, List.set_cons_zero, List.set_cons_succ]
        refine wpAnyH_take (i := 11) (v := ?_) rfl (by kernel_rfl) (by kernel_rfl) (by kernel_rfl) (fun _ _ _ h => h) (Or.inl ⟨by rfl, ?_⟩) (by assumption) ?_
        rotate_left
        · (intro w hSw; go_simp; try (with_reducible rfl))
        try simp only [Act.put, List.getElem_toArray, List.getElem_cons_zero, List.getElem_cons_succ, List.setIfInBounds_toArray, List.set_cons_zero, List.set_cons_succ]
        refine wpAnyH_done (by kernel_rfl) ?_ _
        refine NoPanic.normal ?_
        clear HSS C0 hHeld
        go_wp2_with fail
        go_loopw [14] (fun i wr => ∃ j : Nat, j ≤ K7 ∧ i = .int .i64 (j : Int) ∧ Hid (Below U.heap.size U wr)) (fun i _ => K7 - (intOf i).toNat)
        case atStart => exact ⟨0, Nat.zero_le _, rfl, Lib.hid (Below.refl _ _)⟩
        case round =>
          obtain ⟨j, hj, rfl, HB⟩ := hrel
          by_cases hjK : j < K7
          · have hdj : decide ((j : Int) < (K7 : Int)) = true := decide_eq_true (by omega)
            have hdjn : decide (j < K7) = true := decide_eq_true hjK
            have hjz : j < zs.length := by rw [HK7.out]; exact hjK
            have hbj1 : (0 : Int) ≤ (j : Int) := by omega
            have hbj2 : (j : Int) < (K7 : Int) := by omega
            obtain ⟨a7b, c7b, he7, hr7⟩ := own_z (own_below8 HL1.out.pl HB.out)
            rw [HK7.out] at he7
            cases he7
            rcases hr7 with h0 | ⟨g7, rfl, _, hc7⟩
            · omega
            have hc7j := hc7 j hjz
            have HRD := Lib.hid (fun (p : Nat) (e : zs[j] = (p : Int)) => HSP.out.reads hjz e)
            have HS2 := HSP.out.2 j hjz
            generalize zs[j] = z at *
            clear hc7
            by_cases hz : z = -1
            · subst hz
              go_wp2_with fail
              go_roundw
              case rel => exact ⟨j + 1, by omega, by go_num, HB⟩
              case measure => simp [intOf]; omega
            · obtain ⟨p, hp⟩ : ∃ p : Nat, z = (p : Int) := by
                rcases HS2 with h | ⟨p, h, _⟩
                · exact absurd h hz
                · exact ⟨p, h⟩
              subst hp
              obtain ⟨hpl, nx, hrd⟩ := HRD.out p rfl
              rw [HZ.out] at hpl
              have HRE := Lib.hid (read_any a13 c13 l p wr (HBI.out.below HB.out).1 (by rw [HZ.out]; omega) (by rw [HZ.out]; omega))
              rw [hrd, HZ.out] at HRE
              rcases HII.out with ⟨_, h0, _⟩ | ⟨x, rfl, hi1, hi2, hi3, hi4, hi5⟩
              · omega
              have hjs : j < ss.length := by omega
              have hcw := hi4 j hjs
              have HCW : Hid (∀ W, Below wr.heap.size wr W → W.cell? (x.add j) = some (.string (ss.getD j ByteArray.empty))) := Lib.hid (fun W hb => by
                have h1 : Below w.heap.size w W := ((HL1.out.bel).trans ((HB.out).mono HL1.out.sz)).trans (hb.mono (Nat.le_trans HL1.out.sz HB.out.size))
                rw [h1.cell (p := x.add j) (World.block_lt_of_cell? w _ hcw)]
                exact hcw)
              have hsz5 : (ss.getD j ByteArray.empty).size ≤ maxLen := hi5 _ (by rw [List.getD_eq_getElem?_getD, List.getElem?_eq_getElem hjs]; exact List.getElem_mem hjs)
              have HFE := fun W => Lib.hid (few_any (ss.getD j ByteArray.empty) 40 W hsz5 (by decide))
              generalize ss.getD j ByteArray.empty = q at *
              generalize few q 40 = t at *
              have hteq : (t.toList != t.toList) = false := by simp
              have hdp : decide ((p : Int) < 0) = false := decide_eq_false (by omega)
              have hbl : (j : Int) < (len : Int) := by omega
              clear hi1 hi2 hi3 hi4 hi5 hcw hsz5 hrd HRD HS2 hz
              go_wp2_with fail
              refine HRE.out.mono ?_
              rintro e w5 ⟨rfl, hb5⟩
              replace HB := Lib.hid (chain HB.out hb5)
              have hcq := HCW.out w5 hb5
              clear hb5 HRE HCW hc7j
              go_wp2_with fail
              refine (HFE _).out.mono ?_
              rintro e w6 ⟨rfl, hw6⟩
              rw [← hw6]
              clear hw6 w6 HFE hcq
              go_wp2_with fail
              go_roundw
              case rel => exact ⟨j + 1, by omega, by go_num, HB⟩
              case measure => simp [intOf]; omega
          · obtain rfl : j = K7 := by omega
            have hdj : decide ((j : Int) < (j : Int)) = false := by simp
            go_wp2_with fail
            refine (HLV _).out.mono ?_
            rintro e w5 ⟨rfl, hb5⟩
            replace HB := Lib.hid (chain HB.out hb5)
            clear hb5 HLV
            go_wp2_with fail
            go_ret
            exact ⟨rfl, HL1.out.bel.trans (HB.out.mono HL1.out.sz)⟩
    · have hd : decide ((k : Int) < (len : Int)) = false := decide_eq_false (by omega)
      have hdn : decide (k < len) = false := decide_eq_false hkl
      have hl5 : l.length ≤ 100000 := by omega
      have HBY := Lib.hid (wbytes_any HLW.out.wa (by omega))
      obtain ⟨K7, hK7⟩ : ∃ K7, zs.length = K7 := ⟨_, rfl⟩
      have HK7 := Lib.hid hK7
      have hkz := HSP.out.1
      rw [hK7] at hkz
      rw [hK7]
      clear hK7
      go_wp2_with fail
      refine HBY.out.mono ?_
      rintro e w1 ⟨v13, rfl, ho, hb1⟩
      have HL1 := Lib.hid (HLW.out.below (hb1.drew))
      obtain ⟨a13, c13, hv13, hbi⟩ := in_own ho
      subst hv13
      have HBI : Hid (BytesIn2 w1.drew a13 c13 l) := Lib.hid (hbi.below ((Below.refl _ _).drew))
      have HSA : Hid (Calls Try.prog 20 #[.slice a13 l.length c13, .slice aB l.length cB] w1.drew fun e w' => e = .returned (.bool true) ∧ w' = w1.drew) := Lib.hid (by
        have := refSameBytes_any _ _ _ _ w1.drew (own_at (own_below8 ho ((Below.refl _ _).drew))) (own_at HL1.out.rb)
        rw [decide_eq_true rfl] at this
        exact this)
      have HLE := Lib.hid (wlen_any HL1.out.wa)
      have hcd := HL1.out.box.c0
      clear ho hb1 hbi HBY HLW
      obtain ⟨Z, hZ⟩ : ∃ Z, l.length = Z := ⟨_, rfl⟩
      have HZ := Lib.hid hZ
      rw [hZ] at HSA HLE hcd hl5 ⊢
      have hnz : ((Z : Int) != (Z : Int)) = false := by simp
      clear hZ hll
      go_upto_region 20 with fail
      refine wp_region_noPanic ?_
      obtain ⟨S, hS⟩ : ∃ S : World → Prop, (fun W => W = w1.drew) = S := ⟨_, rfl⟩
      have C0 : Hid (∀ w', S w' → w'.cell? ⟨w.heap.size + 1, 0, none⟩ = some (.slice aB Z cB)) := Lib.hid (fun w' h => by rw [← hS] at h; rw [h]; exact hcd)
      have HSS : Hid (S w1.drew) := Lib.hid (by rw [← hS])
      clear hS hcd
      refine wp_region_held_drew (S := S) (by kernel_rfl) HSS.out (fun hHeld => ?_)
      generalize w1.drew = U at *
      refine wpAnyH_take (i := 0) (v := ?_) rfl (by kernel_rfl) (by kernel_rfl) (by kernel_rfl) (fun _ _ _ h => h) (Or.inl ⟨by rfl, ?_⟩) (by assumption) ?_
      rotate_left
      · (intro w hSw; go_simp; try (with_reducible rfl))
      try simp only [Act.put, List.getElem_toArray, List.getElem_cons_zero, List.setIfInBounds_toArray, List.set_cons_zero, List.set_cons_succ]
      refine wpAnyH_take (i := 1) (v := ?_) rfl (by kernel_rfl) (by kernel_rfl) (by kernel_rfl) (fun _ _ _ h => h) (Or.inl ⟨by rfl, ?_⟩) (by assumption) ?_
      rotate_left
      · (intro w hSw; go_simp; try (with_reducible rfl))
      try simp only [Act.put, List.getElem_toArray, List.getElem_cons_zero, List.getElem_cons_succ, List.setIfInBounds_toArray, List.set_cons_zero, List.set_cons_succ]
      refine wpAnyH_take (i := 2) (v := ?_) rfl (by kernel_rfl) (by kernel_rfl) (by kernel_rfl) (fun _ _ _ h => h) (Or.inl ⟨by rfl, ?_⟩) (by assumption) ?_
      rotate_left
      · (intro w hSw; have hc0 := C0.out w hSw; go_simp; try (with_reducible rfl))
      try simp only [Act.put, List.getElem_toArray, List.getElem_cons_zero, List.getElem_cons_succ, List.setIfInBounds_toArray, List.set_cons_zero, List.set_cons_succ]
      refine wpAnyH_ready (rs := [3]) (by kernel_rfl) (by simp) ?_
      refine AllReadyH.cons rfl (fun K hK => ?_) AllReadyH.nil
      go_simp
      refine HSA.out.mono ?_
      rintro e w2 ⟨rfl, hw2⟩
      rw [hw2]
      clear hw2 w2 HSA
      go_wp2_with fail
      refine hK.out _ _ HSS.out (fun hHeld => ?_)
      clear hK K
      try simp only [Act.put, List.getElem_toArray, List.getElem_cons_zero, List.getElem_cons_succ, List.setIfInBounds_toArray, List.set_cons_zero, List.set_cons_succ]
      refine wpAnyH_take (i := 4) (v := ?_) rfl (by kernel_rfl) (by kernel_rfl) (by kernel_rfl) (fun _ _ _ h => h) (Or.inl ⟨by rfl, ?_⟩) (by assumption) ?_
      rotate_left
      · (intro w hSw; go_simp; try (with_reducible rfl))
      try simp only [Act.put, List.getElem_toArray, List.getElem_cons_zero, List.getElem_cons_succ, List.setIfInBounds_toArray, List.set_cons_zero, List.set_cons_succ]
      refine wpAnyH_take (i := 5) (v := ?_) rfl (by kernel_rfl) (by kernel_rfl) (by kernel_rfl) (fun _ _ _ h => h) (Or.inl ⟨by rfl, ?_⟩) (by assumption) ?_
      rotate_left
      · (intro w hSw; go_simp; try (with_reducible rfl))
      try simp only [Act.put, List.getElem_toArray, List.getElem_cons_zero, List.getElem_cons_succ, List.setIfInBounds_toArray, List.set_cons_zero, List.set_cons_succ]
      refine wpAnyH_take (i := 7) (v := ?_) rfl (by kernel_rfl) (by kernel_rfl) (by kernel_rfl) (fun _ _ _ h => h) (Or.inl ⟨by rfl, ?_⟩) (by assumption) ?_
      rotate_left
      · (intro w hSw; go_simp; try (with_reducible rfl))
      try simp only [Act.put, List.getElem_toArray, List.getElem_cons_zero, List.getElem_cons_succ, List.setIfInBounds_toArray, List.set_cons_zero, List.set_cons_succ]
      refine wpAnyH_take (i := 8) (v := ?_) rfl (by kernel_rfl) (by kernel_rfl) (by kernel_rfl) (fun _ _ _ h => h) (Or.inl ⟨by rfl, ?_⟩) (by assumption) ?_
      rotate_left
      · (intro w hSw; have hc0 := C0.out w hSw; go_simp; try (with_reducible rfl))
      try simp only [Act.put, List.getElem_toArray, List.getElem_cons_zero, List.getElem_cons_succ, List.setIfInBounds_toArray, List.set_cons_zero, List.set_cons_succ]
      refine wpAnyH_take (i := 9) (v := ?_) rfl (by kernel_rfl) (by kernel_rfl) (by kernel_rfl) (fun _ _ _ h => h) (Or.inl ⟨by rfl, ?_⟩) (by assumption) ?_
      rotate_left
      · (intro w hSw; go_simp; try (with_reducible rfl))
      try simp only [Act.put, List.getElem_toArray, List.getElem_cons_zero, List.getElem_cons_succ, List.setIfInBounds_toArray, List.set_cons_zero, List.set_cons_succ]
      refine wpAnyH_ready (rs := [6]) (by kernel_rfl) (by simp) ?_
      refine AllReadyH.cons rfl (fun K hK => ?_) AllReadyH.nil
      go_simp
      refine HLE.out.mono ?_
      rintro e w2 ⟨rfl, hw2⟩
      rw [hw2]
      clear hw2 w2 HLE
      go_wp2_with fail
      refine hK.out _ _ HSS.out (fun hHeld => ?_)
      clear hK K
      try simp only [Act.put, List.getElem_toArray, List.getElem_cons_zero, List.getElem_cons_succ, List.setIfInBounds_toArray, List.set_cons_zero, List.set_cons_succ]
      refine wpAnyH_take (i := 10) (v := ?_) rfl (by kernel_rfl) (by kernel_rfl) (by kernel_rfl) (fun _ _ _ h => h) (Or.inl ⟨by rfl, ?_⟩) (by assumption) ?_
      rotate_left
      · (intro w hSw; go_simp; try (with_reducible rfl))
      try simp only [Act.put, List.getElem_toArray, List.getElem_cons_zero, List.getElem_cons_succ, List.setIfInBounds_toArray, List.set_cons_zero, List.set_cons_succ]
      refine wpAnyH_take (i := 11) (v := ?_) rfl (by kernel_rfl) (by kernel_rfl) (by kernel_rfl) (fun _ _ _ h => h) (Or.inl ⟨by rfl, ?_⟩) (by assumption) ?_
      rotate_left
      · (intro w hSw; go_simp; try (with_reducible rfl))
      try simp only [Act.put, List.getElem_toArray, List.getElem_cons_zero, List.getElem_cons_succ, List.setIfInBounds_toArray, List.set_cons_zero, List.set_cons_succ]
      refine wpAnyH_done (by kernel_rfl) ?_ _
      refine NoPanic.normal ?_
      clear HSS C0 hHeld
      go_wp2_with fail
      go_loopw [14] (fun i wr => ∃ j : Nat, j ≤ K7 ∧ i = .int .i64 (j : Int) ∧ Hid (Below U.heap.size U wr)) (fun i _ => K7 - (intOf i).toNat)
      case atStart => exact ⟨0, Nat.zero_le _, rfl, Lib.hid (Below.refl _ _)⟩
      case round =>
        obtain ⟨j, hj, rfl, HB⟩ := hrel
        by_cases hjK : j < K7
        · have hdj : decide ((j : Int) < (K7 : Int)) = true := decide_eq_true (by omega)
          have hdjn : decide (j < K7) = true := decide_eq_true hjK
          have hjz : j < zs.length := by rw [HK7.out]; exact hjK
          have hbj1 : (0 : Int) ≤ (j : Int) := by omega
          have hbj2 : (j : Int) < (K7 : Int) := by omega
          obtain ⟨a7b, c7b, he7, hr7⟩ := own_z (own_below8 HL1.out.pl HB.out)
          rw [HK7.out] at he7
          cases he7
          rcases hr7 with h0 | ⟨g7, rfl, _, hc7⟩
          · omega
          have hc7j := hc7 j hjz
          have HRD := Lib.hid (fun (p : Nat) (e : zs[j] = (p : Int)) => HSP.out.reads hjz e)
          have HS2 := HSP.out.2 j hjz
          generalize zs[j] = z at *
          clear hc7
          by_cases hz : z = -1
          · subst hz
            go_wp2_with fail
            go_roundw
            case rel => exact ⟨j + 1, by omega, by go_num, HB⟩
            case measure => simp [intOf]; omega
          · obtain ⟨p, hp⟩ : ∃ p : Nat, z = (p : Int) := by
              rcases HS2 with h | ⟨p, h, _⟩
              · exact absurd h hz
              · exact ⟨p, h⟩
            subst hp
            obtain ⟨hpl, nx, hrd⟩ := HRD.out p rfl
            rw [HZ.out] at hpl
            have HRE := Lib.hid (read_any a13 c13 l p wr (HBI.out.below HB.out).1 (by rw [HZ.out]; omega) (by rw [HZ.out]; omega))
            rw [hrd, HZ.out] at HRE
            rcases HII.out with ⟨_, h0, _⟩ | ⟨x, rfl, hi1, hi2, hi3, hi4, hi5⟩
            · omega
            have hjs : j < ss.length := by omega
            have hcw := hi4 j hjs
            have HCW : Hid (∀ W, Below wr.heap.size wr W → W.cell? (x.add j) = some (.string (ss.getD j ByteArray.empty))) := Lib.hid (fun W hb => by
              have h1 : Below w.heap.size w W := ((HL1.out.bel).trans ((HB.out).mono HL1.out.sz)).trans (hb.mono (Nat.le_trans HL1.out.sz HB.out.size))
              rw [h1.cell (p := x.add j) (World.block_lt_of_cell? w _ hcw)]
              exact hcw)
            have hsz5 : (ss.getD j ByteArray.empty).size ≤ maxLen := hi5 _ (by rw [List.getD_eq_getElem?_getD, List.getElem?_eq_getElem hjs]; exact List.getElem_mem hjs)
            have HFE := fun W => Lib.hid (few_any (ss.getD j ByteArray.empty) 40 W hsz5 (by decide))
            generalize ss.getD j ByteArray.empty = q at *
            generalize few q 40 = t at *
            have hteq : (t.toList != t.toList) = false := by simp
            have hdp : decide ((p : Int) < 0) = false := decide_eq_false (by omega)
            have hbl : (j : Int) < (len : Int) := by omega
            clear hi1 hi2 hi3 hi4 hi5 hcw hsz5 hrd HRD HS2 hz
            go_wp2_with fail
            refine HRE.out.mono ?_
            rintro e w5 ⟨rfl, hb5⟩
            replace HB := Lib.hid (chain HB.out hb5)
            have hcq := HCW.out w5 hb5
            clear hb5 HRE HCW hc7j
            go_wp2_with fail
            refine (HFE _).out.mono ?_
            rintro e w6 ⟨rfl, hw6⟩
            rw [← hw6]
            clear hw6 w6 HFE hcq
            go_wp2_with fail
            go_roundw
            case rel => exact ⟨j + 1, by omega, by go_num, HB⟩
            case measure => simp [intOf]; omega
        · obtain rfl : j = K7 := by omega
          have hdj : decide ((j : Int) < (j : Int)) = false := by simp
          go_wp2_with fail
          refine (HLV _).out.mono ?_
          rintro e w5 ⟨rfl, hb5⟩
          replace HB := Lib.hid (chain HB.out hb5)
          clear hb5 HLV
          go_wp2_with fail
          go_ret
          exact ⟨rfl, HL1.out.bel.trans (HB.out.mono HL1.out.sz)⟩

set_option maxRecDepth 100000 in
theorem lifted (os : Os) (started : os.Started) (H : Type) (enc : TypeId × Value → H) :
    ReturnsInHanded {} Try.checked os 6 .any (Rows.labelWritesSpec.pre6 enc Try.prog Try.f6 Rows.labelWritesRow.domain false) (Rows.labelWritesSpec.post enc Try.prog Try.f6 false true false false) := by
  refine returnsInHanded_of_change (C := Try.checked) own started (by kernel_rfl) Try.func6
    (ChangeSpec.witness6 (enc := enc) (C := Try.checked) false ⟨#[], #[.slice none 0 0, .slice none 0 0], []⟩ 8 (by kernel_rfl) (by kernel_rfl) (by kernel_rfl) (by kernel_rfl)) ?_
  intro W base args ds gs before hval0 hW hcnd _
  have hval : ∀ (j : Nat) t v, Try.f6.params[j]? = some t → args[j]? = some v → Value.okWide Try.prog W .any base t v := hval0
  have hW' := hW
  obtain ⟨p, q, hA0, hV, rfl, hfz, hnd⟩ := hW
  have hA : DataW.TrodAll enc Try.prog W 0 (fun _ => true) true Try.f6.params.toList args.toList ds p := hA0
  rw [Try.params6] at hA hval
  obtain ⟨v0, vs0, d0, ds0, p0, q0, hargs, rfl, rfl, h0, r0⟩ := trodAll_cons hA
  obtain ⟨v1, vs1, d1, ds1, p1, q1, rfl, rfl, rfl, h1, r1⟩ := trodAll_cons r0
  obtain ⟨rfl, rfl, rfl⟩ := trodAll_nil r1
  obtain rfl : args = #[v0, v1] := by cases args; simp_all
  obtain ⟨rfl, rfl⟩ := trodVars_none hV
  obtain ⟨a0, len0, cap0, rfl⟩ := okWide_slice Try.underlying29 (hval 0 29 v0 rfl rfl)
  have k0 := h0
  have lt0 : ∀ x ∈ p0, x.block < W.heap.size := by obtain ⟨m, hm⟩ := k0; exact DataW.trod_lt m _ _ _ hm
  obtain ⟨z0, w0⟩ : ∃ ss, IsStrs W a0 len0 cap0 ss := by
    obtain ⟨fuel, hf⟩ := h0
    rcases open_strings Try.underlying29 Try.underlying9 (by kernel_rfl) hf with ⟨hcs, _⟩ | ⟨x, l, c, ss, hcs, _, hl, hm, hz, _, hcell, hsz⟩
    · simp [Value.cells] at hcs
      obtain ⟨rfl, rfl, rfl⟩ := hcs
      exact ⟨[], .inl ⟨rfl, rfl, rfl⟩⟩
    · simp [Value.cells] at hcs
      obtain ⟨rfl, rfl, rfl⟩ := hcs
      exact ⟨ss, .inr ⟨_, rfl, hl, hm, by simpa using hz, hcell, hsz⟩⟩
  obtain ⟨a1, len1, cap1, rfl⟩ := okWide_slice Try.underlying24 (hval 1 24 v1 rfl rfl)
  have k1 := h1
  have lt1 : ∀ x ∈ p1, x.block < W.heap.size := by obtain ⟨m, hm⟩ := k1; exact DataW.trod_lt m _ _ _ hm
  obtain ⟨z1, w1⟩ : ∃ zs, IsRow .u8 W a1 len1 cap1 zs := by
    obtain ⟨fuel, hf⟩ := h1
    rcases open_ints Try.underlying24 Try.underlying5 (by kernel_rfl) hf with ⟨hcs, _⟩ | ⟨x, l, c, zs, hcs, _, hl, hm, hz, _, hcell, hwz⟩
    · simp [Value.cells] at hcs
      obtain ⟨rfl, rfl, rfl⟩ := hcs
      exact ⟨[], .inl ⟨rfl, rfl, rfl, rfl⟩⟩
    · simp [Value.cells] at hcs
      obtain ⟨rfl, rfl, rfl⟩ := hcs
      exact ⟨zs, .inr ⟨_, rfl, hl, hm, by simpa using hz, hcell, hwz⟩⟩
  clear hA0 hval0
  refine (walk a0 len0 cap0 z0 a1 len1 cap1 z1 W w0 w1).mono fun e W' ⟨he, bel⟩ => ?_
  subst he
  exact ⟨_, rfl, _, _, _, [], _, [], hW', trodAll_mk1 (shut_bool Try.underlying4 _), (trodAll_cons_mk (Below.trod laidOut (by kernel_rfl) (of_decide_eq_true (by kernel_rfl)) k0 bel lt0) (trodAll_cons_mk (Below.trod laidOut (by kernel_rfl) (of_decide_eq_true (by kernel_rfl)) k1 bel lt1) trodAll_mk0)), rfl, bel.frame _, fun h => by cases h⟩

theorem over : Rows.labelWritesRow.holds Try.pinned (OpenSpec.ofChange Rows.labelWritesSpec) :=
  OpenClaim.holds_of_wide 6 Try.f6 rfl rfl rfl rfl rfl rfl rfl ⟨rfl, rfl, rfl, rfl, rfl⟩ rfl rfl rfl rfl rfl (by kernel_rfl) Try.func6 (by kernel_rfl)
    (of_decide_eq_true (by kernel_rfl)) (by unfold Func.isWrapper; first | (rw [if_pos (by decide +kernel)]; kernel_rfl) | (rw [if_neg (by decide +kernel)]; exact ⟨rfl, rfl⟩))
    (fun os started H enc _ => lifted os started H enc)


theorem proved : Rows.LabelWritesSaid := over
#print axioms proved
end Go.Proofs.Ytbeoapfbddcpcaa.labelWrites

/- The law MatchLetters, where what it reads is of bulk at most 1048576: what is told of records is told of the same with names in great letters, whatever the query and the records. Condition: bulk at most 1048576. -/
import Derived.Test.YtmecdhlehekdeaaMatLet
import Derived.Test.YtmecdhlehekdeaaRows
import Derived.ProofKit
import Derived.Deep.Cut
import Derived.Deep.RegionHeld3
import Derived.OpenShut
import Derived.ShutString
import Derived.ChangeOld
import Derived.Below
import Derived.JoinedCond
namespace Go.Proofs.Ytmecdhlehekdeaa.matchLetters
open Go.ChangeShapes Go.WideShapes Go.ChangeAt Go.RowKit
open Go.ChangeMaps (open_string shut_string)
set_option linter.unusedVariables false
set_option maxRecDepth 20000
set_option linter.unusedSimpArgs false

theorem own : ownKnob Try.prog.godebug = none := by kernel_rfl

theorem upU_toNat (c : UInt8) : (upU c).toNat = if 97 ≤ c.toNat ∧ c.toNat ≤ 122 then c.toNat - 32 else c.toNat := by
  unfold upU
  by_cases h : 97 ≤ c.toNat ∧ c.toNat ≤ 122
  · rw [if_pos (show 97 ≤ c ∧ c ≤ 122 from h), if_pos h]
    exact UInt8.toNat_sub_of_le c 32 (UInt8.le_iff_toNat_le.2 (by show 32 ≤ c.toNat; omega))
  · rw [if_neg (show ¬ (97 ≤ c ∧ c ≤ 122) from h), if_neg h]
theorem up_snoc (s : ByteArray) (k : Nat) (h : k < s.size) : (s.data.toList.map upU).take (k + 1) = (s.data.toList.map upU).take k ++ [upU s[k]] := by
  have hk : k < (s.data.toList.map upU).length := by simpa using h
  rw [List.take_succ_eq_append_getElem hk]
  congr 2
  simp
  rfl
theorem upR_fit {r : Rec} (h : Fit r) : Fit (upR r) := ⟨h.1, h.2.1, h.2.2.1, h.2.2.2.1, h.2.2.2.2.1, h.2.2.2.2.2.1, by show (upB r.name).size ≤ maxLen; rw [upB_size]; exact h.2.2.2.2.2.2.1, h.2.2.2.2.2.2.2.1, h.2.2.2.2.2.2.2.2⟩
theorem up_all {D : List Rec} (h : All2 D) : All2 (D.map upR) := fun r hr => by
  obtain ⟨x, hx, rfl⟩ := List.mem_map.1 hr
  exact ⟨by show (upB x.name).size ≤ _; rw [upB_size]; exact (h x hx).1, (h x hx).2⟩
set_option maxRecDepth 100000 in
set_option maxHeartbeats 8000000 in
theorem walk (q : Qry) (a : Option Addr) (len cap : Nat) (D : List Rec) (w : World) (hq : QryGot q 1048576) (hD : RecsIn w a len cap D 1048576) :
    Calls Try.prog 9 #[qryV q, .slice a len cap] w fun e w' => e = .returned (.bool true) ∧ Below w.heap.size w w' := by
  have hnm : q.nm.size ≤ 2000000 := Nat.le_trans hq.nm (by decide)
  have HLO := fun W => Lib.hid (refLower_any q.nm W hnm)
  have HFW := fun W (h : Below w.heap.size w W) => Lib.hid (few11_any a cap D 10 W (hD.at0.below h) (by decide))
  simp only [hD.len] at HFW
  have HA := Lib.hid (hD.at0.take 10)
  have HALL := Lib.hid ((all2_of hD).take 10)
  have HLE : Hid ((D.take 10).length ≤ 10) := Lib.hid (by rw [List.length_take]; omega)
  have HLV := fun W => Lib.hid (lives11_any W)
  generalize D.take 10 = L at *
  have hlz : (lowB q.nm).size ≤ 2000000 := by rw [lowB_size]; exact hnm
  obtain ⟨q2, hq2⟩ : ∃ q2 : Qry, (⟨q.id, lowB q.nm, q.ty, q.sv⟩ : Qry) = q2 := ⟨_, rfl⟩
  have hq2n : q2.nm.size ≤ 2000000 := by rw [← hq2]; exact hlz
  have HAS0 := fun W => Lib.hid (pack_as q2 W)
  have HFO0 := fun (g : Option Addr) (c : Nat) W h => Lib.hid (pack_fo q2 g c L L.length rfl W h)
  have HFG0 := fun (g : Option Addr) (c : Nat) W h => Lib.hid (pack_fo q2 g c (L.map upR) L.length (by simp) W h)
  have HTE0 := fun (a : Option Addr) (c : Nat) (g : Nat) W h => Lib.hid (pack_te q2 a c L L.length rfl HALL.out hq2n (by have := HLE.out; omega) g W h)
  have HTG0 := fun (a : Option Addr) (c : Nat) (g : Nat) W h => Lib.hid (pack_te q2 a c (L.map upR) L.length (by simp) (up_all HALL.out) hq2n (by have := HLE.out; omega) g W h)
  simp only [tellP_up] at HTG0
  obtain ⟨X, hX⟩ : ∃ X, tellP 33152 q2.nm q2.ty L = X := ⟨_, rfl⟩
  simp only [hX] at HTE0 HTG0
  clear hX hq2n
  subst hq2
  obtain ⟨N, hN⟩ : ∃ N, L.length = N := ⟨_, rfl⟩
  have HN := Lib.hid hN
  simp only [hN] at HFW HFO0 HFG0 HTE0 HTG0
  clear hq hD hN hnm hlz
  obtain ⟨id, nm, ty, sv⟩ := q
  unfold qryV at *
  simp only at HLO HAS0 HFO0 HFG0 HTE0 HTG0 ⊢
  generalize lowB nm = ln at *
  obtain ⟨W0, hW0⟩ : ∃ W0, w.alloc (.cells #[.int .i64 id, .string nm, .int .i64 ty, .int .i64 sv] 23) = W0 := ⟨_, rfl⟩
  have HB0 : Hid (Below w.heap.size w W0) := Lib.hid (by rw [← hW0]; exact (Below.refl _ _).alloc (Nat.le_refl _) _)
  have HQ : Hid (CellsAt W0 w.heap.size [.int .i64 id, .string nm, .int .i64 ty, .int .i64 sv]) := Lib.hid (by rw [← hW0]; exact CellsAt.new w 23 [.int .i64 id, .string nm, .int .i64 ty, .int .i64 sv])
  go_enter Try.func9, Try.ntmps9
  go_upto_region 1 with fail
  try rw [hW0]
  clear hW0
  have q1 := HQ.out.cell 1 _ rfl
  go_wp2_with fail
  refine (HLO _).out.mono ?_
  rintro e w1 ⟨rfl, hb1⟩
  have HQ1 := Lib.hid (HQ.out.below hb1)
  have HB1 := Lib.hid (chain HB0.out hb1)
  clear hb1 q1 HQ HB0 HLO
  have f1 := HQ1.out.live 1 (by simp)
  have c1 := HQ1.out.cell 1 _ rfl
  go_upto_region 2 with fail
  have HQ2 : Hid (CellsAt (w1.setCell ⟨w.heap.size, 1, none⟩ (.string ln)) w.heap.size [.int .i64 id, .string ln, .int .i64 ty, .int .i64 sv]) := Lib.hid (HQ1.out.set 1 _ (by simp))
  have HB2 : Hid (Below w.heap.size w (w1.setCell ⟨w.heap.size, 1, none⟩ (.string ln))) := Lib.hid (HB1.out.setCell (Nat.le_refl _) _)
  clear f1 c1 HQ1 HB1
  generalize w1.setCell ⟨w.heap.size, 1, none⟩ (.string ln) = w2 at *
  go_wp2_with fail
  refine (HFW w2 HB2.out).out.mono ?_
  rintro e wq ⟨rfl, hwq⟩
  obtain rfl : w2 = wq := hwq.symm
  clear hwq HFW
  have HA2 := Lib.hid (HA.out.below HB2.out)
  have HWS : Hid (w.heap.size < w2.heap.size) := Lib.hid HQ2.out.lt
  go_wp2_with fail
  go_loopw [5, 6] (fun v i wr => ∃ k : Nat, k ≤ N ∧ i = .int .i64 (k : Int) ∧ Hid (RowR wr w2.heap.size v ((L.take k).map upR)) ∧ Hid (Below w2.heap.size w2 wr)) (fun _ i _ => N - (intOf i).toNat)
  case atStart => exact ⟨0, Nat.zero_le _, rfl, Lib.hid (RowR.nil _ _), Lib.hid (Below.refl _ _)⟩
  case round =>
    obtain ⟨k, hk, rfl, HR, HB⟩ := hrel
    by_cases hkN : k < N
    · have hd : decide ((k : Int) < (N : Int)) = true := decide_eq_true (by omega)
      have hdn : decide (k < N) = true := decide_eq_true hkN
      have hle := HLE.out
      have hNL := HN.out
      have hwb : IntKind.i64.wrap ((k : Int) + 1) = (k : Int) + 1 := by rw [IntKind.wrap_i64]; omega
      have hkD : k < L.length := by omega
      obtain ⟨g, o, ha, hg, hrg⟩ := (HA2.out.below HB.out).at k hkD
      subst ha
      have HRG := Lib.hid hrg
      have HFIT := Lib.hid (HA2.out.2.2.1 _ (List.getElem_mem hkD))
      have HNZ := Lib.hid (HALL.out _ (List.getElem_mem hkD)).1
      have HTK : Hid ((L.take (k + 1)).map upR = (L.take k).map upR ++ [upR L[k]]) := Lib.hid (by rw [List.take_succ_eq_append_getElem hkD, List.map_append]; rfl)
      have HTL : Hid (((L.take k).map upR).length ≤ 10) := Lib.hid (by rw [List.length_map, List.length_take]; omega)
      generalize (L.take k).map upR = T at *
      generalize L[k] = r at *
      have H16 := Lib.hid HFIT.out.1
      have hb1 : (0 : Int) ≤ (k : Int) := by omega
      have hb2 : (k : Int) < (N : Int) := by omega
      have HZ := Lib.hid (rec_zeroed wr)
      clear hrg hg
      go_upto_region 8 with (first | refine load_rec H16 HRG _ rfl rfl rfl ?_ | refine store_rec HZ _ _ H16 rfl rfl rfl rfl (fun W1 HW1 HE1 => ?_))
      have hb5 := below_newR HW1
      have HB5 := Lib.hid (chain HB.out hb5)
      have HR5 := Lib.hid (HR.out.below hb5)
      have HLP : Hid (w2.heap.size ≤ wr.heap.size) := Lib.hid HB.out.size
      have HNE := Lib.hid (fun x hx => (HR.out.1.lt x hx).2)
      obtain ⟨P, hP⟩ : ∃ P, wr.heap.size = P := ⟨_, rfl⟩
      rw [hP] at HE1 HLP HNE
      try rw [hP]
      clear hb5 HZ HRG HW1 hP HB HR
      obtain ⟨i0, hi0, hz0, hz1, hz2⟩ := info_parts Try.infoByte
      go_wp2_with fail
      go_loopw [8, 9] (fun vb i wx => ∃ j : Nat, j ≤ r.name.size ∧ i = .int .i64 j ∧ Hid (wx.ownsRow W1.heap.size 5 1 vb ((r.name.data.toList.map upU).take j).length (bys ((r.name.data.toList.map upU).take j))) ∧ Hid (Below W1.heap.size W1 wx)) (fun _ i _ => r.name.size - (intOf i).toNat)
      case atStart => exact ⟨0, Nat.zero_le _, rfl, Lib.hid (World.ownsRow_nil _ _ _ _), Lib.hid (Below.refl _ _)⟩
      case round =>
        obtain ⟨j, hj, rfl, HOW, HBW⟩ := hrel
        have hown := HOW.out
        have hbel := HBW.out
        clear HOW HBW
        have hsz := hbel.size
        have r0 : wr.cell? ⟨P, 0, none⟩ = some (.string r.name) := (HE1.out.below hbel).cell 0 _ rfl
        have hnz := HNZ.out
        by_cases hlt : j < r.name.size
        · have HS := Lib.hid (up_snoc r.name j hlt)
          have hl : ((r.name.data.toList.map upU).take j).length ≤ j := List.length_take_le _ _
          generalize (r.name.data.toList.map upU).take j = l at *
          have u1 : (r.name[j]).toNat < 256 := (r.name[j]).toNat_lt
          have HUT := Lib.hid (upU_toNat r.name[j])
          by_cases hc : 97 ≤ (r.name[j]).toNat ∧ (r.name[j]).toNat ≤ 122
          · have HX : Hid ((r.name[j]).toNat - 32 = (upU r.name[j]).toNat) := Lib.hid (by rw [HUT.out, if_pos hc])
            have hw : IntKind.u8.wrap (((r.name[j]).toNat : Int) - 32) = ((r.name[j]).toNat : Int) - 32 := by rw [IntKind.wrap_u8]; omega
            go_wp2_with (at_builtin; refine wpList_append_own _ rfl (.tmp 48) (.tmp 50) 65 rfl W1.heap.size 5 i0 _ 1 1 Try.underlying65 hi0 hz0 hz1 hz2 rfl (by decide) _ _ _ rfl (hown.alloc _) ⟨wr.heap.size, 0, none⟩ 1 1 [.int .u8 (((r.name[j]).toNat : Int) - 32)] rfl rfl (cell_one_new _ _ _) (by intro u hu; simp at hu; subst hu; rfl) (by unfold maxLen; omega) (by omega) (by simp; omega) ?_)
            intro v9 w9 hown' hgrow _
            rw [show (((r.name[j]).toNat : Int) - 32) = ((upU r.name[j]).toNat : Int) by have := HX.out; omega] at hown'
            have R := own_byte hown' hgrow hown hbel
            clear hown' hgrow hown hbel hw r0
            go_wp2_with fail
            go_roundw
            case rel => exact ⟨j + 1, by omega, by go_num, Lib.hid (by rw [HS.out]; exact R.1), Lib.hid R.2⟩
            case measure => simp [intOf]; omega
          · have HX : Hid ((r.name[j]).toNat = (upU r.name[j]).toNat) := Lib.hid (by rw [HUT.out, if_neg hc])
            have hcc : (r.name[j]).toNat < 97 ∨ 122 < (r.name[j]).toNat := by omega
            clear hc
            rcases hcc with hc | hc
            all_goals
              go_wp2_with (at_builtin; refine wpList_append_own _ rfl (.tmp 48) (.tmp 50) 65 rfl W1.heap.size 5 i0 _ 1 1 Try.underlying65 hi0 hz0 hz1 hz2 rfl (by decide) _ _ _ rfl (hown.alloc _) ⟨wr.heap.size, 0, none⟩ 1 1 [.int .u8 ((r.name[j]).toNat : Int)] rfl rfl (cell_one_new _ _ _) (by intro u hu; simp at hu; subst hu; rfl) (by unfold maxLen; omega) (by omega) (by simp; omega) ?_)
              intro v9 w9 hown' hgrow _
              rw [HX.out] at hown'
              have R := own_byte hown' hgrow hown hbel
              clear hown' hgrow hown hbel r0
              go_wp2_with fail
              go_roundw
              case rel => exact ⟨j + 1, by omega, by go_num, Lib.hid (by rw [HS.out]; exact R.1), Lib.hid R.2⟩
              case measure => simp [intOf]; omega
        · obtain rfl : j = r.name.size := by omega
          have hbk := own_bytes_back hown
          have e : (⟨((r.name.data.toList.map upU).take r.name.size).toArray⟩ : ByteArray) = upB r.name := by
            rw [List.take_of_length_le (by simp)]; rfl
          rw [e] at hbk
          have HE2 := Lib.hid (HE1.out.below hbel)
          have HR2 := Lib.hid (HR5.out.below hbel)
          have HBZ := Lib.hid (chain HB5.out hbel)
          clear hown e hbel HE1 HR5 HB5 hsz
          have fz := HE2.out.live 0 (by decide)
          have HU16 : Hid ((upR r).b.length = 16) := Lib.hid H16.out
          go_upto_region 17 with fail
          have HE3 : Hid (RecAt (wr.setCell ⟨P, 0, none⟩ (.string (upB r.name))) P (upR r)) := Lib.hid (HE2.out.set 0 _ (upR r) H16.out (by decide) rfl)
          have HR3 := Lib.hid (HR2.out.kept2 (w' := wr.setCell ⟨P, 0, none⟩ (.string (upB r.name))) (fun x hx => heap_setCell_otherM _ _ _ _ _ (Nat.ne_of_lt (HNE.out x hx))))
          have HB3 : Hid (Below w2.heap.size w2 (wr.setCell ⟨P, 0, none⟩ (.string (upB r.name)))) := Lib.hid (HBZ.out.setCell HLP.out _)
          clear HE2 HR2 HBZ fz r0 hbk HNE HLP
          generalize wr.setCell ⟨P, 0, none⟩ (.string (upB r.name)) = w3 at *
          have HS2 := Lib.hid HB3.out.size
          have HM1 : Hid (1 = [upR r].length) := Lib.hid rfl
          have HY : Hid (All16 [upR r]) := Lib.hid (fun x hx => by rw [List.mem_singleton.1 hx]; exact H16.out)
          have HLE2 : Hid (T.length + [upR r].length ≤ 100000) := Lib.hid (by have := HTL.out; simp; omega)
          have HFW2 : Hid (∀ W5, W5 = w3.alloc (.cells (recL (upR r)).toArray 57) → Below w3.heap.size w3 W5 ∧ W5.rangeAt w3.heap.size 0 (flatR [upR r]) ∧ w2.heap.size ≤ W5.heap.size) := Lib.hid (fun W5 e => by
            have hb : Below w3.heap.size w3 W5 := by rw [e]; exact (Below.refl _ _).alloc (Nat.le_refl _) _
            exact ⟨hb, by rw [e]; exact rec_range _ _, Nat.le_trans HS2.out hb.size⟩)
          go_wp2_with (first
            | refine load_recAt HE3 _ rfl rfl rfl ?_
            | (refine build_recS (r := upR r) HU16 rfl _ rfl rfl (fun W5 HW5 => ?_); obtain ⟨hb5, hr5, hs5⟩ := HFW2.out W5 HW5.out; have HB5 := Lib.hid hb5; have HO5 := Lib.hid (HR3.out.below hb5); have HRX := Lib.hid hr5; have HS5 := Lib.hid hs5; clear hb5 hr5 hs5)
            | (at_builtin; refine append_recs HO5 _ _ rfl rfl rfl [upR r] rfl HM1 HRX HY HLE2 HS5 (fun v6 w6 HO6 HG6 HA6 => ?_)))
          have HB6 : Hid (Below w2.heap.size w2 w6) := Lib.hid ((HB3.out.trans (HB5.out.mono HS2.out)).grown HG6.out HS5.out (fun j hj => (HO5.out.1.lt j hj).1))
          have HO7 := Lib.hid (HTK.out ▸ HO6.out)
          clear HFW2 HG6 HA6 HO6 HO5 HRX HB5 HW5 HB3 HR3
          go_roundw
          case rel => exact ⟨k + 1, by omega, by go_num, HO7, HB6⟩
          case measure => simp [intOf]; omega
    · obtain rfl : k = N := by omega
      have hd : decide ((k : Int) < (k : Int)) = false := by simp
      have HT0 : Hid ((L.take k).map upR = L.map upR) := Lib.hid (by rw [List.take_of_length_le (by have := HN.out; omega)])
      rw [HT0.out] at HR
      obtain ⟨ag, cg, rfl, hrg⟩ := HR.out.recs (fun r hr => by obtain ⟨x, hx, rfl⟩ := List.mem_map.1 hr; exact upR_fit (HA2.out.2.2.1 x hx))
      have hlm : (L.map upR).length = k := by rw [List.length_map]; exact HN.out
      rw [hlm]
      have HRG := Lib.hid hrg
      have HQ3 := Lib.hid (HQ2.out.below HB.out)
      have HA3 := Lib.hid (HA2.out.below HB.out)
      have HB3 := Lib.hid (chain HB2.out HB.out)
      have HFO := HFO0 a cap
      have HFG := HFG0 ag cg
      have HTE := HTE0 a cap
      have HTG := HTG0 ag cg
      clear hlm hrg HFO0 HFG0 HTE0 HTG0 HR HT0 HQ2 HA2 HB2 HB HALL HLE HN
      go_upto_region 18 with fail
      go_cut [11] from 13 (fun s wx => ∃ (B : Nat) (v : Value) (Bt : Nat), s = .pointer (some ⟨B, 0, none⟩) ∧ Hid (CellsAt wx B (tldL X v)) ∧ Hid (RowA wx Bt v X.ad) ∧ Hid (Below wr.drew.heap.size wr.drew wx))
      case first =>
        have hsT : (Try.prog.info? 43).map (·.size) = some 5 := by kernel_rfl
        have hsQ : (Try.prog.info? 23).map (·.size) = some ([.int .i64 id, .string ln, .int .i64 ty, .int .i64 sv] : List Value).length := by kernel_rfl
        have HQd := Lib.hid (HQ3.out.below (Below.refl _ _).drew)
        have HG2 := Lib.hid (HA3.out.below (Below.refl _ _).drew)
        obtain ⟨S, hS⟩ : ∃ S : World → Prop, (fun U => U.rangeAt w.heap.size 0 [.int .i64 id, .string ln, .int .i64 ty, .int .i64 sv]) = S := ⟨_, rfl⟩
        have C1 : Hid (∀ w', S w' → w'.rangeAt w.heap.size 0 [.int .i64 id, .string ln, .int .i64 ty, .int .i64 sv]) := Lib.hid (fun w' h => by rw [← hS] at h; exact h)
        have HSI : Hid (∀ U, Below wr.drew.heap.size wr.drew U → S U) := Lib.hid (fun U h => by rw [← hS]; exact (HQd.out.below h).range)
        have HSO : Hid (∀ U, Below wr.drew.heap.size wr.drew U → ∀ B, wr.drew.heap.size ≤ B → ∀ vs X, X = U.setCells B 0 vs → S X) := Lib.hid (fun U h B hB vs X e => by
          have h1 := HQd.out.lt
          rw [← hS, e]
          exact ((HQd.out.below h).apart (by omega) _).range)
        clear hS
        refine wp_region_noPanic ?_
        refine wp_region_held_drew (S := S) (by kernel_rfl) (HSI.out _ (Below.refl _ _)) (fun hHeld => ?_)
        generalize wr.drew = V at *
        have HG0 : Hid (Below V.heap.size V V) := Lib.hid (Below.refl _ _)
        refine wpAnyH_take (i := 0) rfl (by kernel_rfl) (by kernel_rfl) (by kernel_rfl) (fun _ _ _ h => h) (yields_row C1 Try.underlying23 rfl hsQ (by rfl) _ rfl rfl) (by assumption) ?_
        try simp only [Act.put, List.getElem_toArray, List.getElem_cons_zero, List.setIfInBounds_toArray, List.set_cons_zero, List.set_cons_succ]
        refine wpAnyH_take (i := 1) rfl (by kernel_rfl) (by kernel_rfl) (by kernel_rfl) (fun _ _ _ h => h) (yields_row C1 Try.underlying23 rfl hsQ (by rfl) _ rfl rfl) (by assumption) ?_
        try simp only [Act.put, List.getElem_toArray, List.getElem_cons_zero, List.getElem_cons_succ, List.setIfInBounds_toArray, List.set_cons_zero, List.set_cons_succ]
        refine wpAnyH_take (i := 3) (v := ?_) rfl (by kernel_rfl) (by kernel_rfl) (by kernel_rfl) (fun _ _ _ h => h) (Or.inl ⟨by rfl, ?_⟩) (by assumption) ?_
        rotate_left
        · (intro w hSw; go_simp; try (with_reducible rfl))
        try simp only [Act.put, List.getElem_toArray, List.getElem_cons_zero, List.getElem_cons_succ, List.setIfInBounds_toArray, List.set_cons_zero, List.set_cons_succ]
        clear hsQ C1 hHeld
        obtain ⟨U0, hU0⟩ : ∃ U0, V = U0 := ⟨V, rfl⟩
        clear U0 hU0
        refine wpAnyH_ready (rs := [2, 6]) (by kernel_rfl) (by simp) ?_
        refine AllReadyH.cons rfl (fun K hK => ?_) (ready_one rfl rfl (fun K hK => ?_))
        · rw [if_pos (by rfl)]
          go_simp
          refine (HAS0 V).out.mono ?_
          rintro e U1 ⟨rfl, hb⟩
          go_wp2_with fail
          have HG0n := Lib.hid (chain HG0.out hb)
          clear HG0
          have HG0 := HG0n
          clear HG0n
          have HG2n := Lib.hid (HG2.out.below hb)
          clear HG2
          have HG2 := HG2n
          clear HG2n
          clear hb
          refine hK.out _ _ (HSI.out _ HG0.out) (fun hHeld1 => ?_)
          clear hK K
          try simp only [Act.put, List.getElem_toArray, List.getElem_cons_zero, List.getElem_cons_succ, List.setIfInBounds_toArray, List.set_cons_zero, List.set_cons_succ]
          refine wpAnyH_ready (rs := [4, 6]) (by kernel_rfl) (by simp) ?_
          refine AllReadyH.cons rfl (fun K hK => ?_) (ready_one rfl rfl (fun K hK => ?_))
          · rw [if_pos (by rfl)]
            go_simp
            refine (HFO U1 HG2.out).out.mono ?_
            rintro e U2 ⟨g, rfl, hm, hb⟩
            have HG2m := Lib.hid hm
            clear hm
            go_wp2_with fail
            have HG0n := Lib.hid (chain HG0.out hb)
            clear HG0
            have HG0 := HG0n
            clear HG0n
            clear HG2
            have HG2 := HG2m
            clear HG2m
            clear hb
            refine hK.out _ _ (HSI.out _ HG0.out) (fun hHeld2 => ?_)
            clear hK K
            try simp only [Act.put, List.getElem_toArray, List.getElem_cons_zero, List.getElem_cons_succ, List.setIfInBounds_toArray, List.set_cons_zero, List.set_cons_succ]
            refine wpAnyH_ready (rs := [5, 6]) (by kernel_rfl) (by simp) ?_
            refine AllReadyH.cons rfl (fun K hK => ?_) (ready_one rfl rfl (fun K hK => ?_))
            · rw [if_pos (by rfl)]
              go_simp
              refine (HTE g U2 HG2.out).out.mono ?_
              rintro e U3 ⟨v, rfl, hr, hb⟩
              obtain ⟨av, nv, cv, rfl⟩ := hr.isSlice
              have HG3 : Hid (RowA U3 V.heap.size (.slice av nv cv) X.ad) := Lib.hid (hr.mono HG0.out.size)
              clear hr
              go_wp2_with fail
              have HG0n := Lib.hid (chain HG0.out hb)
              clear HG0
              have HG0 := HG0n
              clear HG0n
              have HG2n := Lib.hid (HG2.out.below hb)
              clear HG2
              have HG2 := HG2n
              clear HG2n
              clear hb
              refine hK.out _ _ (HSI.out _ HG0.out) (fun hHeld3 => ?_)
              clear hK K
              try simp only [Act.put, List.getElem_toArray, List.getElem_cons_zero, List.getElem_cons_succ, List.setIfInBounds_toArray, List.set_cons_zero, List.set_cons_succ]
              refine wpAnyH_ready (rs := [6]) (by kernel_rfl) (by simp) ?_
              refine ready_one rfl rfl (fun K hK => ?_)
              go_wp2_with fail
              obtain ⟨U4, hU⟩ : ∃ X, U3.alloc (.cells #[.int .i64 0, .slice none 0 0, .int .i64 0, .string ⟨#[]⟩, .int .i64 0] 43) = X := ⟨_, rfl⟩
              have hb : Below U3.heap.size U3 U4 := by rw [← hU]; exact (Below.refl _ _).alloc (Nat.le_refl _) _
              have HZ : Hid (CellsAt U4 U3.heap.size zT) := Lib.hid (by rw [← hU]; exact CellsAt.new U3 43 zT)
              try rw [hU]
              clear hU
              obtain ⟨B, hB⟩ : ∃ B, U3.heap.size = B := ⟨_, rfl⟩
              have HBL : Hid (V.heap.size ≤ B) := Lib.hid (by rw [← hB]; exact HG0.out.size)
              have HNE : Hid (∀ g, (Value.slice av nv cv).ownBlock = some g → g ≠ B) := Lib.hid (fun g hg => by rw [← hB]; exact Nat.ne_of_lt (HG3.out.lt g hg).2)
              rw [hB] at HZ
              try rw [hB]
              clear hB
              have HG0n := Lib.hid (chain HG0.out hb)
              clear HG0
              have HG0 := HG0n
              clear HG0n
              have HG2n := Lib.hid (HG2.out.below hb)
              clear HG2
              have HG2 := HG2n
              clear HG2n
              have HG3n := Lib.hid (HG3.out.below hb)
              clear HG3
              have HG3 := HG3n
              clear HG3n
              clear hb
              refine hK.out _ _ (HSI.out _ HG0.out) (fun hHeld4 => ?_)
              clear hK K
              try simp only [Act.put, List.getElem_toArray, List.getElem_cons_zero, List.getElem_cons_succ, List.setIfInBounds_toArray, List.set_cons_zero, List.set_cons_succ]
              refine wpAnyH_ready (rs := [7]) (by kernel_rfl) (by simp) ?_
              refine ready_one rfl rfl (fun K hK => ?_)
              refine wp_store_of HZ rfl hsT _ _ rfl rfl rfl (vs := tldL X (.slice av nv cv)) rfl rfl rfl (fun Xw HX HXC => ?_)
              have HSX : Hid (S Xw) := Lib.hid (HSO.out _ HG0.out B HBL.out _ _ HX.out)
              refine hK.out _ _ HSX.out (fun hHeldX => ?_)
              clear hK K
              try simp only [Act.put, List.getElem_toArray, List.getElem_cons_zero, List.getElem_cons_succ, List.setIfInBounds_toArray, List.set_cons_zero, List.set_cons_succ]
              refine wpAnyH_done (by kernel_rfl) ?_ _
              refine NoPanic.normal ?_
              clear hHeld1 hHeld2 hHeld3 hHeld4 hHeldX
              go_wp2_with fail
              go_meet
              case rel => exact ⟨B, _, _, rfl, Lib.hid HXC.out, Lib.hid ((HG3.out.kept2 (w' := Xw) (fun g hg => by rw [HX.out]; exact heap_setCells_other _ _ _ _ _ (HNE.out g hg)))), Lib.hid (by rw [HX.out]; exact below_cells HBL.out _ _ _ HG0.out)⟩
            · go_wp2_with fail
              obtain ⟨U3, hU⟩ : ∃ X, U2.alloc (.cells #[.int .i64 0, .slice none 0 0, .int .i64 0, .string ⟨#[]⟩, .int .i64 0] 43) = X := ⟨_, rfl⟩
              have hb : Below U2.heap.size U2 U3 := by rw [← hU]; exact (Below.refl _ _).alloc (Nat.le_refl _) _
              have HZ : Hid (CellsAt U3 U2.heap.size zT) := Lib.hid (by rw [← hU]; exact CellsAt.new U2 43 zT)
              try rw [hU]
              clear hU
              obtain ⟨B, hB⟩ : ∃ B, U2.heap.size = B := ⟨_, rfl⟩
              have HBL : Hid (V.heap.size ≤ B) := Lib.hid (by rw [← hB]; exact HG0.out.size)
              rw [hB] at HZ
              try rw [hB]
              clear hB
              have HG0n := Lib.hid (chain HG0.out hb)
              clear HG0
              have HG0 := HG0n
              clear HG0n
              have HG2n := Lib.hid (HG2.out.below hb)
              clear HG2
              have HG2 := HG2n
              clear HG2n
              clear hb
              refine hK.out _ _ (HSI.out _ HG0.out) (fun hHeld3 => ?_)
              clear hK K
              try simp only [Act.put, List.getElem_toArray, List.getElem_cons_zero, List.getElem_cons_succ, List.setIfInBounds_toArray, List.set_cons_zero, List.set_cons_succ]
              refine wpAnyH_ready (rs := [5]) (by kernel_rfl) (by simp) ?_
              refine ready_one rfl rfl (fun K hK => ?_)
              go_simp
              refine (HTE g U3 HG2.out).out.mono ?_
              rintro e U4 ⟨v, rfl, hr, hb⟩
              obtain ⟨av, nv, cv, rfl⟩ := hr.isSlice
              have HNE : Hid (∀ g, (Value.slice av nv cv).ownBlock = some g → g ≠ B) := Lib.hid (fun g hg => by have h1 := (hr.lt g hg).1; have h2 := HZ.out.lt; omega)
              have HG3 : Hid (RowA U4 V.heap.size (.slice av nv cv) X.ad) := Lib.hid (hr.mono HG0.out.size)
              clear hr
              go_wp2_with fail
              have HG0n := Lib.hid (chain HG0.out hb)
              clear HG0
              have HG0 := HG0n
              clear HG0n
              have HG2n := Lib.hid (HG2.out.below hb)
              clear HG2
              have HG2 := HG2n
              clear HG2n
              have HZn := Lib.hid (HZ.out.below hb)
              clear HZ
              have HZ := HZn
              clear HZn
              clear hb
              refine hK.out _ _ (HSI.out _ HG0.out) (fun hHeld4 => ?_)
              clear hK K
              try simp only [Act.put, List.getElem_toArray, List.getElem_cons_zero, List.getElem_cons_succ, List.setIfInBounds_toArray, List.set_cons_zero, List.set_cons_succ]
              refine wpAnyH_ready (rs := [7]) (by kernel_rfl) (by simp) ?_
              refine ready_one rfl rfl (fun K hK => ?_)
              refine wp_store_of HZ rfl hsT _ _ rfl rfl rfl (vs := tldL X (.slice av nv cv)) rfl rfl rfl (fun Xw HX HXC => ?_)
              have HSX : Hid (S Xw) := Lib.hid (HSO.out _ HG0.out B HBL.out _ _ HX.out)
              refine hK.out _ _ HSX.out (fun hHeldX => ?_)
              clear hK K
              try simp only [Act.put, List.getElem_toArray, List.getElem_cons_zero, List.getElem_cons_succ, List.setIfInBounds_toArray, List.set_cons_zero, List.set_cons_succ]
              refine wpAnyH_done (by kernel_rfl) ?_ _
              refine NoPanic.normal ?_
              clear hHeld1 hHeld2 hHeld3 hHeld4 hHeldX
              go_wp2_with fail
              go_meet
              case rel => exact ⟨B, _, _, rfl, Lib.hid HXC.out, Lib.hid ((HG3.out.kept2 (w' := Xw) (fun g hg => by rw [HX.out]; exact heap_setCells_other _ _ _ _ _ (HNE.out g hg)))), Lib.hid (by rw [HX.out]; exact below_cells HBL.out _ _ _ HG0.out)⟩
          · go_wp2_with fail
            obtain ⟨U2, hU⟩ : ∃ X, U1.alloc (.cells #[.int .i64 0, .slice none 0 0, .int .i64 0, .string ⟨#[]⟩, .int .i64 0] 43) = X := ⟨_, rfl⟩
            have hb : Below U1.heap.size U1 U2 := by rw [← hU]; exact (Below.refl _ _).alloc (Nat.le_refl _) _
            have HZ : Hid (CellsAt U2 U1.heap.size zT) := Lib.hid (by rw [← hU]; exact CellsAt.new U1 43 zT)
            try rw [hU]
            clear hU
            obtain ⟨B, hB⟩ : ∃ B, U1.heap.size = B := ⟨_, rfl⟩
            have HBL : Hid (V.heap.size ≤ B) := Lib.hid (by rw [← hB]; exact HG0.out.size)
            rw [hB] at HZ
            try rw [hB]
            clear hB
            have HG0n := Lib.hid (chain HG0.out hb)
            clear HG0
            have HG0 := HG0n
            clear HG0n
            have HG2n := Lib.hid (HG2.out.below hb)
            clear HG2
            have HG2 := HG2n
            clear HG2n
            clear hb
            refine hK.out _ _ (HSI.out _ HG0.out) (fun hHeld2 => ?_)
            clear hK K
            try simp only [Act.put, List.getElem_toArray, List.getElem_cons_zero, List.getElem_cons_succ, List.setIfInBounds_toArray, List.set_cons_zero, List.set_cons_succ]
            refine wpAnyH_ready (rs := [4]) (by kernel_rfl) (by simp) ?_
            refine ready_one rfl rfl (fun K hK => ?_)
            go_simp
            refine (HFO U2 HG2.out).out.mono ?_
            rintro e U3 ⟨g, rfl, hm, hb⟩
            have HG2m := Lib.hid hm
            clear hm
            go_wp2_with fail
            have HG0n := Lib.hid (chain HG0.out hb)
            clear HG0
            have HG0 := HG0n
            clear HG0n
            clear HG2
            have HG2 := HG2m
            clear HG2m
            have HZn := Lib.hid (HZ.out.below hb)
            clear HZ
            have HZ := HZn
            clear HZn
            clear hb
            refine hK.out _ _ (HSI.out _ HG0.out) (fun hHeld3 => ?_)
            clear hK K
            try simp only [Act.put, List.getElem_toArray, List.getElem_cons_zero, List.getElem_cons_succ, List.setIfInBounds_toArray, List.set_cons_zero, List.set_cons_succ]
            refine wpAnyH_ready (rs := [5]) (by kernel_rfl) (by simp) ?_
            refine ready_one rfl rfl (fun K hK => ?_)
            go_simp
            refine (HTE g U3 HG2.out).out.mono ?_
            rintro e U4 ⟨v, rfl, hr, hb⟩
            obtain ⟨av, nv, cv, rfl⟩ := hr.isSlice
            have HNE : Hid (∀ g, (Value.slice av nv cv).ownBlock = some g → g ≠ B) := Lib.hid (fun g hg => by have h1 := (hr.lt g hg).1; have h2 := HZ.out.lt; omega)
            have HG3 : Hid (RowA U4 V.heap.size (.slice av nv cv) X.ad) := Lib.hid (hr.mono HG0.out.size)
            clear hr
            go_wp2_with fail
            have HG0n := Lib.hid (chain HG0.out hb)
            clear HG0
            have HG0 := HG0n
            clear HG0n
            have HG2n := Lib.hid (HG2.out.below hb)
            clear HG2
            have HG2 := HG2n
            clear HG2n
            have HZn := Lib.hid (HZ.out.below hb)
            clear HZ
            have HZ := HZn
            clear HZn
            clear hb
            refine hK.out _ _ (HSI.out _ HG0.out) (fun hHeld4 => ?_)
            clear hK K
            try simp only [Act.put, List.getElem_toArray, List.getElem_cons_zero, List.getElem_cons_succ, List.setIfInBounds_toArray, List.set_cons_zero, List.set_cons_succ]
            refine wpAnyH_ready (rs := [7]) (by kernel_rfl) (by simp) ?_
            refine ready_one rfl rfl (fun K hK => ?_)
            refine wp_store_of HZ rfl hsT _ _ rfl rfl rfl (vs := tldL X (.slice av nv cv)) rfl rfl rfl (fun Xw HX HXC => ?_)
            have HSX : Hid (S Xw) := Lib.hid (HSO.out _ HG0.out B HBL.out _ _ HX.out)
            refine hK.out _ _ HSX.out (fun hHeldX => ?_)
            clear hK K
            try simp only [Act.put, List.getElem_toArray, List.getElem_cons_zero, List.getElem_cons_succ, List.setIfInBounds_toArray, List.set_cons_zero, List.set_cons_succ]
            refine wpAnyH_done (by kernel_rfl) ?_ _
            refine NoPanic.normal ?_
            clear hHeld1 hHeld2 hHeld3 hHeld4 hHeldX
            go_wp2_with fail
            go_meet
            case rel => exact ⟨B, _, _, rfl, Lib.hid HXC.out, Lib.hid ((HG3.out.kept2 (w' := Xw) (fun g hg => by rw [HX.out]; exact heap_setCells_other _ _ _ _ _ (HNE.out g hg)))), Lib.hid (by rw [HX.out]; exact below_cells HBL.out _ _ _ HG0.out)⟩
        · go_wp2_with fail
          obtain ⟨U1, hU⟩ : ∃ X, V.alloc (.cells #[.int .i64 0, .slice none 0 0, .int .i64 0, .string ⟨#[]⟩, .int .i64 0] 43) = X := ⟨_, rfl⟩
          have hb : Below V.heap.size V U1 := by rw [← hU]; exact (Below.refl _ _).alloc (Nat.le_refl _) _
          have HZ : Hid (CellsAt U1 V.heap.size zT) := Lib.hid (by rw [← hU]; exact CellsAt.new V 43 zT)
          try rw [hU]
          clear hU
          obtain ⟨B, hB⟩ : ∃ B, V.heap.size = B := ⟨_, rfl⟩
          have HBL : Hid (V.heap.size ≤ B) := Lib.hid (by rw [← hB]; exact HG0.out.size)
          rw [hB] at HZ
          try rw [hB]
          clear hB
          have HG0n := Lib.hid (chain HG0.out hb)
          clear HG0
          have HG0 := HG0n
          clear HG0n
          have HG2n := Lib.hid (HG2.out.below hb)
          clear HG2
          have HG2 := HG2n
          clear HG2n
          clear hb
          refine hK.out _ _ (HSI.out _ HG0.out) (fun hHeld1 => ?_)
          clear hK K
          try simp only [Act.put, List.getElem_toArray, List.getElem_cons_zero, List.getElem_cons_succ, List.setIfInBounds_toArray, List.set_cons_zero, List.set_cons_succ]
          refine wpAnyH_ready (rs := [2]) (by kernel_rfl) (by simp) ?_
          refine ready_one rfl rfl (fun K hK => ?_)
          go_simp
          refine (HAS0 U1).out.mono ?_
          rintro e U2 ⟨rfl, hb⟩
          go_wp2_with fail
          have HG0n := Lib.hid (chain HG0.out hb)
          clear HG0
          have HG0 := HG0n
          clear HG0n
          have HG2n := Lib.hid (HG2.out.below hb)
          clear HG2
          have HG2 := HG2n
          clear HG2n
          have HZn := Lib.hid (HZ.out.below hb)
          clear HZ
          have HZ := HZn
          clear HZn
          clear hb
          refine hK.out _ _ (HSI.out _ HG0.out) (fun hHeld2 => ?_)
          clear hK K
          try simp only [Act.put, List.getElem_toArray, List.getElem_cons_zero, List.getElem_cons_succ, List.setIfInBounds_toArray, List.set_cons_zero, List.set_cons_succ]
          refine wpAnyH_ready (rs := [4]) (by kernel_rfl) (by simp) ?_
          refine ready_one rfl rfl (fun K hK => ?_)
          go_simp
          refine (HFO U2 HG2.out).out.mono ?_
          rintro e U3 ⟨g, rfl, hm, hb⟩
          have HG2m := Lib.hid hm
          clear hm
          go_wp2_with fail
          have HG0n := Lib.hid (chain HG0.out hb)
          clear HG0
          have HG0 := HG0n
          clear HG0n
          clear HG2
          have HG2 := HG2m
          clear HG2m
          have HZn := Lib.hid (HZ.out.below hb)
          clear HZ
          have HZ := HZn
          clear HZn
          clear hb
          refine hK.out _ _ (HSI.out _ HG0.out) (fun hHeld3 => ?_)
          clear hK K
          try simp only [Act.put, List.getElem_toArray, List.getElem_cons_zero, List.getElem_cons_succ, List.setIfInBounds_toArray, List.set_cons_zero, List.set_cons_succ]
          refine wpAnyH_ready (rs := [5]) (by kernel_rfl) (by simp) ?_
          refine ready_one rfl rfl (fun K hK => ?_)
          go_simp
          refine (HTE g U3 HG2.out).out.mono ?_
          rintro e U4 ⟨v, rfl, hr, hb⟩
          obtain ⟨av, nv, cv, rfl⟩ := hr.isSlice
          have HNE : Hid (∀ g, (Value.slice av nv cv).ownBlock = some g → g ≠ B) := Lib.hid (fun g hg => by have h1 := (hr.lt g hg).1; have h2 := HZ.out.lt; omega)
          have HG3 : Hid (RowA U4 V.heap.size (.slice av nv cv) X.ad) := Lib.hid (hr.mono HG0.out.size)
          clear hr
          go_wp2_with fail
          have HG0n := Lib.hid (chain HG0.out hb)
          clear HG0
          have HG0 := HG0n
          clear HG0n
          have HG2n := Lib.hid (HG2.out.below hb)
          clear HG2
          have HG2 := HG2n
          clear HG2n
          have HZn := Lib.hid (HZ.out.below hb)
          clear HZ
          have HZ := HZn
          clear HZn
          clear hb
          refine hK.out _ _ (HSI.out _ HG0.out) (fun hHeld4 => ?_)
          clear hK K
          try simp only [Act.put, List.getElem_toArray, List.getElem_cons_zero, List.getElem_cons_succ, List.setIfInBounds_toArray, List.set_cons_zero, List.set_cons_succ]
          refine wpAnyH_ready (rs := [7]) (by kernel_rfl) (by simp) ?_
          refine ready_one rfl rfl (fun K hK => ?_)
          refine wp_store_of HZ rfl hsT _ _ rfl rfl rfl (vs := tldL X (.slice av nv cv)) rfl rfl rfl (fun Xw HX HXC => ?_)
          have HSX : Hid (S Xw) := Lib.hid (HSO.out _ HG0.out B HBL.out _ _ HX.out)
          refine hK.out _ _ HSX.out (fun hHeldX => ?_)
          clear hK K
          try simp only [Act.put, List.getElem_toArray, List.getElem_cons_zero, List.getElem_cons_succ, List.setIfInBounds_toArray, List.set_cons_zero, List.set_cons_succ]
          refine wpAnyH_done (by kernel_rfl) ?_ _
          refine NoPanic.normal ?_
          clear hHeld1 hHeld2 hHeld3 hHeld4 hHeldX
          go_wp2_with fail
          go_meet
          case rel => exact ⟨B, _, _, rfl, Lib.hid HXC.out, Lib.hid ((HG3.out.kept2 (w' := Xw) (fun g hg => by rw [HX.out]; exact heap_setCells_other _ _ _ _ _ (HNE.out g hg)))), Lib.hid (by rw [HX.out]; exact below_cells HBL.out _ _ _ HG0.out)⟩
      case rest =>
        obtain ⟨B1, v1, Bt1, rfl, HT1, HRo1, HBl1⟩ := hcut
        have HQ4 := Lib.hid ((HQ3.out.below (Below.refl _ _).drew).below HBl1.out)
        have HG4 := Lib.hid ((HRG.out.below (Below.refl _ _).drew).below HBl1.out)
        have HB4 : Hid (Below w.heap.size w wc) := Lib.hid (HB3.out.drew.trans (HBl1.out.mono (by have := HB3.out.size; exact this)))
        clear HQ3 HA3 HRG HB3 HBl1 HFO HTE
        generalize wc = wA at *
        go_upto_region 19 with fail
        go_cut [12] from 13 (fun s wx => ∃ (B : Nat) (v : Value) (Bt : Nat), s = .pointer (some ⟨B, 0, none⟩) ∧ Hid (CellsAt wx B (tldL X v)) ∧ Hid (RowA wx Bt v X.ad) ∧ Hid (Below wA.drew.heap.size wA.drew wx))
        case first =>
          have hsT : (Try.prog.info? 43).map (·.size) = some 5 := by kernel_rfl
          have hsQ : (Try.prog.info? 23).map (·.size) = some ([.int .i64 id, .string ln, .int .i64 ty, .int .i64 sv] : List Value).length := by kernel_rfl
          have HQd := Lib.hid (HQ4.out.below (Below.refl _ _).drew)
          have HG2 := Lib.hid (HG4.out.below (Below.refl _ _).drew)
          obtain ⟨S, hS⟩ : ∃ S : World → Prop, (fun U => U.rangeAt w.heap.size 0 [.int .i64 id, .string ln, .int .i64 ty, .int .i64 sv]) = S := ⟨_, rfl⟩
          have C1 : Hid (∀ w', S w' → w'.rangeAt w.heap.size 0 [.int .i64 id, .string ln, .int .i64 ty, .int .i64 sv]) := Lib.hid (fun w' h => by rw [← hS] at h; exact h)
          have HSI : Hid (∀ U, Below wA.drew.heap.size wA.drew U → S U) := Lib.hid (fun U h => by rw [← hS]; exact (HQd.out.below h).range)
          have HSO : Hid (∀ U, Below wA.drew.heap.size wA.drew U → ∀ B, wA.drew.heap.size ≤ B → ∀ vs X, X = U.setCells B 0 vs → S X) := Lib.hid (fun U h B hB vs X e => by
            have h1 := HQd.out.lt
            rw [← hS, e]
            exact ((HQd.out.below h).apart (by omega) _).range)
          clear hS
          refine wp_region_noPanic ?_
          refine wp_region_held_drew (S := S) (by kernel_rfl) (HSI.out _ (Below.refl _ _)) (fun hHeld => ?_)
          generalize wA.drew = V at *
          have HG0 : Hid (Below V.heap.size V V) := Lib.hid (Below.refl _ _)
          refine wpAnyH_take (i := 0) rfl (by kernel_rfl) (by kernel_rfl) (by kernel_rfl) (fun _ _ _ h => h) (yields_row C1 Try.underlying23 rfl hsQ (by rfl) _ rfl rfl) (by assumption) ?_
          try simp only [Act.put, List.getElem_toArray, List.getElem_cons_zero, List.setIfInBounds_toArray, List.set_cons_zero, List.set_cons_succ]
          refine wpAnyH_take (i := 1) rfl (by kernel_rfl) (by kernel_rfl) (by kernel_rfl) (fun _ _ _ h => h) (yields_row C1 Try.underlying23 rfl hsQ (by rfl) _ rfl rfl) (by assumption) ?_
          try simp only [Act.put, List.getElem_toArray, List.getElem_cons_zero, List.getElem_cons_succ, List.setIfInBounds_toArray, List.set_cons_zero, List.set_cons_succ]
          refine wpAnyH_take (i := 3) (v := ?_) rfl (by kernel_rfl) (by kernel_rfl) (by kernel_rfl) (fun _ _ _ h => h) (Or.inl ⟨by rfl, ?_⟩) (by assumption) ?_
          rotate_left
          · (intro w hSw; go_simp; try (with_reducible rfl))
          try simp only [Act.put, List.getElem_toArray, List.getElem_cons_zero, List.getElem_cons_succ, List.setIfInBounds_toArray, List.set_cons_zero, List.set_cons_succ]
          clear hsQ C1 hHeld
          obtain ⟨U0, hU0⟩ : ∃ U0, V = U0 := ⟨V, rfl⟩
          clear U0 hU0
          refine wpAnyH_ready (rs := [2, 6]) (by kernel_rfl) (by simp) ?_
          refine AllReadyH.cons rfl (fun K hK => ?_) (ready_one rfl rfl (fun K hK => ?_))
          · rw [if_pos (by rfl)]
            go_simp
            refine (HAS0 V).out.mono ?_
            rintro e U1 ⟨rfl, hb⟩
            go_wp2_with fail
            have HG0n := Lib.hid (chain HG0.out hb)
            clear HG0
            have HG0 := HG0n
            clear HG0n
            have HG2n := Lib.hid (HG2.out.below hb)
            clear HG2
            have HG2 := HG2n
            clear HG2n
            clear hb
            refine hK.out _ _ (HSI.out _ HG0.out) (fun hHeld1 => ?_)
            clear hK K
            try simp only [Act.put, List.getElem_toArray, List.getElem_cons_zero, List.getElem_cons_succ, List.setIfInBounds_toArray, List.set_cons_zero, List.set_cons_succ]
            refine wpAnyH_ready (rs := [4, 6]) (by kernel_rfl) (by simp) ?_
            refine AllReadyH.cons rfl (fun K hK => ?_) (ready_one rfl rfl (fun K hK => ?_))
            · rw [if_pos (by rfl)]
              go_simp
              refine (HFG U1 HG2.out).out.mono ?_
              rintro e U2 ⟨g, rfl, hm, hb⟩
              have HG2m := Lib.hid hm
              clear hm
              go_wp2_with fail
              have HG0n := Lib.hid (chain HG0.out hb)
              clear HG0
              have HG0 := HG0n
              clear HG0n
              clear HG2
              have HG2 := HG2m
              clear HG2m
              clear hb
              refine hK.out _ _ (HSI.out _ HG0.out) (fun hHeld2 => ?_)
              clear hK K
              try simp only [Act.put, List.getElem_toArray, List.getElem_cons_zero, List.getElem_cons_succ, List.setIfInBounds_toArray, List.set_cons_zero, List.set_cons_succ]
              refine wpAnyH_ready (rs := [5, 6]) (by kernel_rfl) (by simp) ?_
              refine AllReadyH.cons rfl (fun K hK => ?_) (ready_one rfl rfl (fun K hK => ?_))
              · rw [if_pos (by rfl)]
                go_simp
                refine (HTG g U2 HG2.out).out.mono ?_
                rintro e U3 ⟨v, rfl, hr, hb⟩
                obtain ⟨av, nv, cv, rfl⟩ := hr.isSlice
                have HG3 : Hid (RowA U3 V.heap.size (.slice av nv cv) X.ad) := Lib.hid (hr.mono HG0.out.size)
                clear hr
                go_wp2_with fail
                have HG0n := Lib.hid (chain HG0.out hb)
                clear HG0
                have HG0 := HG0n
                clear HG0n
                have HG2n := Lib.hid (HG2.out.below hb)
                clear HG2
                have HG2 := HG2n
                clear HG2n
                clear hb
                refine hK.out _ _ (HSI.out _ HG0.out) (fun hHeld3 => ?_)
                clear hK K
                try simp only [Act.put, List.getElem_toArray, List.getElem_cons_zero, List.getElem_cons_succ, List.setIfInBounds_toArray, List.set_cons_zero, List.set_cons_succ]
                refine wpAnyH_ready (rs := [6]) (by kernel_rfl) (by simp) ?_
                refine ready_one rfl rfl (fun K hK => ?_)
                go_wp2_with fail
                obtain ⟨U4, hU⟩ : ∃ X, U3.alloc (.cells #[.int .i64 0, .slice none 0 0, .int .i64 0, .string ⟨#[]⟩, .int .i64 0] 43) = X := ⟨_, rfl⟩
                have hb : Below U3.heap.size U3 U4 := by rw [← hU]; exact (Below.refl _ _).alloc (Nat.le_refl _) _
                have HZ : Hid (CellsAt U4 U3.heap.size zT) := Lib.hid (by rw [← hU]; exact CellsAt.new U3 43 zT)
                try rw [hU]
                clear hU
                obtain ⟨B, hB⟩ : ∃ B, U3.heap.size = B := ⟨_, rfl⟩
                have HBL : Hid (V.heap.size ≤ B) := Lib.hid (by rw [← hB]; exact HG0.out.size)
                have HNE : Hid (∀ g, (Value.slice av nv cv).ownBlock = some g → g ≠ B) := Lib.hid (fun g hg => by rw [← hB]; exact Nat.ne_of_lt (HG3.out.lt g hg).2)
                rw [hB] at HZ
                try rw [hB]
                clear hB
                have HG0n := Lib.hid (chain HG0.out hb)
                clear HG0
                have HG0 := HG0n
                clear HG0n
                have HG2n := Lib.hid (HG2.out.below hb)
                clear HG2
                have HG2 := HG2n
                clear HG2n
                have HG3n := Lib.hid (HG3.out.below hb)
                clear HG3
                have HG3 := HG3n
                clear HG3n
                clear hb
                refine hK.out _ _ (HSI.out _ HG0.out) (fun hHeld4 => ?_)
                clear hK K
                try simp only [Act.put, List.getElem_toArray, List.getElem_cons_zero, List.getElem_cons_succ, List.setIfInBounds_toArray, List.set_cons_zero, List.set_cons_succ]
                refine wpAnyH_ready (rs := [7]) (by kernel_rfl) (by simp) ?_
                refine ready_one rfl rfl (fun K hK => ?_)
                refine wp_store_of HZ rfl hsT _ _ rfl rfl rfl (vs := tldL X (.slice av nv cv)) rfl rfl rfl (fun Xw HX HXC => ?_)
                have HSX : Hid (S Xw) := Lib.hid (HSO.out _ HG0.out B HBL.out _ _ HX.out)
                refine hK.out _ _ HSX.out (fun hHeldX => ?_)
                clear hK K
                try simp only [Act.put, List.getElem_toArray, List.getElem_cons_zero, List.getElem_cons_succ, List.setIfInBounds_toArray, List.set_cons_zero, List.set_cons_succ]
                refine wpAnyH_done (by kernel_rfl) ?_ _
                refine NoPanic.normal ?_
                clear hHeld1 hHeld2 hHeld3 hHeld4 hHeldX
                go_wp2_with fail
                go_meet
                case rel => exact ⟨B, _, _, rfl, Lib.hid HXC.out, Lib.hid ((HG3.out.kept2 (w' := Xw) (fun g hg => by rw [HX.out]; exact heap_setCells_other _ _ _ _ _ (HNE.out g hg)))), Lib.hid (by rw [HX.out]; exact below_cells HBL.out _ _ _ HG0.out)⟩
              · go_wp2_with fail
                obtain ⟨U3, hU⟩ : ∃ X, U2.alloc (.cells #[.int .i64 0, .slice none 0 0, .int .i64 0, .string ⟨#[]⟩, .int .i64 0] 43) = X := ⟨_, rfl⟩
                have hb : Below U2.heap.size U2 U3 := by rw [← hU]; exact (Below.refl _ _).alloc (Nat.le_refl _) _
                have HZ : Hid (CellsAt U3 U2.heap.size zT) := Lib.hid (by rw [← hU]; exact CellsAt.new U2 43 zT)
                try rw [hU]
                clear hU
                obtain ⟨B, hB⟩ : ∃ B, U2.heap.size = B := ⟨_, rfl⟩
                have HBL : Hid (V.heap.size ≤ B) := Lib.hid (by rw [← hB]; exact HG0.out.size)
                rw [hB] at HZ
                try rw [hB]
                clear hB
                have HG0n := Lib.hid (chain HG0.out hb)
                clear HG0
                have HG0 := HG0n
                clear HG0n
                have HG2n := Lib.hid (HG2.out.below hb)
                clear HG2
                have HG2 := HG2n
                clear HG2n
                clear hb
                refine hK.out _ _ (HSI.out _ HG0.out) (fun hHeld3 => ?_)
                clear hK K
                try simp only [Act.put, List.getElem_toArray, List.getElem_cons_zero, List.getElem_cons_succ, List.setIfInBounds_toArray, List.set_cons_zero, List.set_cons_succ]
                refine wpAnyH_ready (rs := [5]) (by kernel_rfl) (by simp) ?_
                refine ready_one rfl rfl (fun K hK => ?_)
                go_simp
                refine (HTG g U3 HG2.out).out.mono ?_
                rintro e U4 ⟨v, rfl, hr, hb⟩
                obtain ⟨av, nv, cv, rfl⟩ := hr.isSlice
                have HNE : Hid (∀ g, (Value.slice av nv cv).ownBlock = some g → g ≠ B) := Lib.hid (fun g hg => by have h1 := (hr.lt g hg).1; have h2 := HZ.out.lt; omega)
                have HG3 : Hid (RowA U4 V.heap.size (.slice av nv cv) X.ad) := Lib.hid (hr.mono HG0.out.size)
                clear hr
                go_wp2_with fail
                have HG0n := Lib.hid (chain HG0.out hb)
                clear HG0
                have HG0 := HG0n
                clear HG0n
                have HG2n := Lib.hid (HG2.out.below hb)
                clear HG2
                have HG2 := HG2n
                clear HG2n
                have HZn := Lib.hid (HZ.out.below hb)
                clear HZ
                have HZ := HZn
                clear HZn
                clear hb
                refine hK.out _ _ (HSI.out _ HG0.out) (fun hHeld4 => ?_)
                clear hK K
                try simp only [Act.put, List.getElem_toArray, List.getElem_cons_zero, List.getElem_cons_succ, List.setIfInBounds_toArray, List.set_cons_zero, List.set_cons_succ]
                refine wpAnyH_ready (rs := [7]) (by kernel_rfl) (by simp) ?_
                refine ready_one rfl rfl (fun K hK => ?_)
                refine wp_store_of HZ rfl hsT _ _ rfl rfl rfl (vs := tldL X (.slice av nv cv)) rfl rfl rfl (fun Xw HX HXC => ?_)
                have HSX : Hid (S Xw) := Lib.hid (HSO.out _ HG0.out B HBL.out _ _ HX.out)
                refine hK.out _ _ HSX.out (fun hHeldX => ?_)
                clear hK K
                try simp only [Act.put, List.getElem_toArray, List.getElem_cons_zero, List.getElem_cons_succ, List.setIfInBounds_toArray, List.set_cons_zero, List.set_cons_succ]
                refine wpAnyH_done (by kernel_rfl) ?_ _
                refine NoPanic.normal ?_
                clear hHeld1 hHeld2 hHeld3 hHeld4 hHeldX
                go_wp2_with fail
                go_meet
                case rel => exact ⟨B, _, _, rfl, Lib.hid HXC.out, Lib.hid ((HG3.out.kept2 (w' := Xw) (fun g hg => by rw [HX.out]; exact heap_setCells_other _ _ _ _ _ (HNE.out g hg)))), Lib.hid (by rw [HX.out]; exact below_cells HBL.out _ _ _ HG0.out)⟩
            · go_wp2_with fail
              obtain ⟨U2, hU⟩ : ∃ X, U1.alloc (.cells #[.int .i64 0, .slice none 0 0, .int .i64 0, .string ⟨#[]⟩, .int .i64 0] 43) = X := ⟨_, rfl⟩
              have hb : Below U1.heap.size U1 U2 := by rw [← hU]; exact (Below.refl _ _).alloc (Nat.le_refl _) _
              have HZ : Hid (CellsAt U2 U1.heap.size zT) := Lib.hid (by rw [← hU]; exact CellsAt.new U1 43 zT)
              try rw [hU]
              clear hU
              obtain ⟨B, hB⟩ : ∃ B, U1.heap.size = B := ⟨_, rfl⟩
              have HBL : Hid (V.heap.size ≤ B) := Lib.hid (by rw [← hB]; exact HG0.out.size)
              rw [hB] at HZ
              try rw [hB]
              clear hB
              have HG0n := Lib.hid (chain HG0.out hb)
              clear HG0
              have HG0 := HG0n
              clear HG0n
              have HG2n := Lib.hid (HG2.out.below hb)
              clear HG2
              have HG2 := HG2n
              clear HG2n
              clear hb
              refine hK.out _ _ (HSI.out _ HG0.out) (fun hHeld2 => ?_)
              clear hK K
              try simp only [Act.put, List.getElem_toArray, List.getElem_cons_zero, List.getElem_cons_succ, List.setIfInBounds_toArray, List.set_cons_zero, List.set_cons_succ]
              refine wpAnyH_ready (rs := [4]) (by kernel_rfl) (by simp) ?_
              refine ready_one rfl rfl (fun K hK => ?_)
              go_simp
              refine (HFG U2 HG2.out).out.mono ?_
              rintro e U3 ⟨g, rfl, hm, hb⟩
              have HG2m := Lib.hid hm
              clear hm
              go_wp2_with fail
              have HG0n := Lib.hid (chain HG0.out hb)
              clear HG0
              have HG0 := HG0n
              clear HG0n
              clear HG2
              have HG2 := HG2m
              clear HG2m
              have HZn := Lib.hid (HZ.out.below hb)
              clear HZ
              have HZ := HZn
              clear HZn
              clear hb
              refine hK.out _ _ (HSI.out _ HG0.out) (fun hHeld3 => ?_)
              clear hK K
              try simp only [Act.put, List.getElem_toArray, List.getElem_cons_zero, List.getElem_cons_succ, List.setIfInBounds_toArray, List.set_cons_zero, List.set_cons_succ]
              refine wpAnyH_ready (rs := [5]) (by kernel_rfl) (by simp) ?_
              refine ready_one rfl rfl (fun K hK => ?_)
              go_simp
              refine (HTG g U3 HG2.out).out.mono ?_
              rintro e U4 ⟨v, rfl, hr, hb⟩
              obtain ⟨av, nv, cv, rfl⟩ := hr.isSlice
              have HNE : Hid (∀ g, (Value.slice av nv cv).ownBlock = some g → g ≠ B) := Lib.hid (fun g hg => by have h1 := (hr.lt g hg).1; have h2 := HZ.out.lt; omega)
              have HG3 : Hid (RowA U4 V.heap.size (.slice av nv cv) X.ad) := Lib.hid (hr.mono HG0.out.size)
              clear hr
              go_wp2_with fail
              have HG0n := Lib.hid (chain HG0.out hb)
              clear HG0
              have HG0 := HG0n
              clear HG0n
              have HG2n := Lib.hid (HG2.out.below hb)
              clear HG2
              have HG2 := HG2n
              clear HG2n
              have HZn := Lib.hid (HZ.out.below hb)
              clear HZ
              have HZ := HZn
              clear HZn
              clear hb
              refine hK.out _ _ (HSI.out _ HG0.out) (fun hHeld4 => ?_)
              clear hK K
              try simp only [Act.put, List.getElem_toArray, List.getElem_cons_zero, List.getElem_cons_succ, List.setIfInBounds_toArray, List.set_cons_zero, List.set_cons_succ]
              refine wpAnyH_ready (rs := [7]) (by kernel_rfl) (by simp) ?_
              refine ready_one rfl rfl (fun K hK => ?_)
              refine wp_store_of HZ rfl hsT _ _ rfl rfl rfl (vs := tldL X (.slice av nv cv)) rfl rfl rfl (fun Xw HX HXC => ?_)
              have HSX : Hid (S Xw) := Lib.hid (HSO.out _ HG0.out B HBL.out _ _ HX.out)
              refine hK.out _ _ HSX.out (fun hHeldX => ?_)
              clear hK K
              try simp only [Act.put, List.getElem_toArray, List.getElem_cons_zero, List.getElem_cons_succ, List.setIfInBounds_toArray, List.set_cons_zero, List.set_cons_succ]
              refine wpAnyH_done (by kernel_rfl) ?_ _
              refine NoPanic.normal ?_
              clear hHeld1 hHeld2 hHeld3 hHeld4 hHeldX
              go_wp2_with fail
              go_meet
              case rel => exact ⟨B, _, _, rfl, Lib.hid HXC.out, Lib.hid ((HG3.out.kept2 (w' := Xw) (fun g hg => by rw [HX.out]; exact heap_setCells_other _ _ _ _ _ (HNE.out g hg)))), Lib.hid (by rw [HX.out]; exact below_cells HBL.out _ _ _ HG0.out)⟩
          · go_wp2_with fail
            obtain ⟨U1, hU⟩ : ∃ X, V.alloc (.cells #[.int .i64 0, .slice none 0 0, .int .i64 0, .string ⟨#[]⟩, .int .i64 0] 43) = X := ⟨_, rfl⟩
            have hb : Below V.heap.size V U1 := by rw [← hU]; exact (Below.refl _ _).alloc (Nat.le_refl _) _
            have HZ : Hid (CellsAt U1 V.heap.size zT) := Lib.hid (by rw [← hU]; exact CellsAt.new V 43 zT)
            try rw [hU]
            clear hU
            obtain ⟨B, hB⟩ : ∃ B, V.heap.size = B := ⟨_, rfl⟩
            have HBL : Hid (V.heap.size ≤ B) := Lib.hid (by rw [← hB]; exact HG0.out.size)
            rw [hB] at HZ
            try rw [hB]
            clear hB
            have HG0n := Lib.hid (chain HG0.out hb)
            clear HG0
            have HG0 := HG0n
            clear HG0n
            have HG2n := Lib.hid (HG2.out.below hb)
            clear HG2
            have HG2 := HG2n
            clear HG2n
            clear hb
            refine hK.out _ _ (HSI.out _ HG0.out) (fun hHeld1 => ?_)
            clear hK K
            try simp only [Act.put, List.getElem_toArray, List.getElem_cons_zero, List.getElem_cons_succ, List.setIfInBounds_toArray, List.set_cons_zero, List.set_cons_succ]
            refine wpAnyH_ready (rs := [2]) (by kernel_rfl) (by simp) ?_
            refine ready_one rfl rfl (fun K hK => ?_)
            go_simp
            refine (HAS0 U1).out.mono ?_
            rintro e U2 ⟨rfl, hb⟩
            go_wp2_with fail
            have HG0n := Lib.hid (chain HG0.out hb)
            clear HG0
            have HG0 := HG0n
            clear HG0n
            have HG2n := Lib.hid (HG2.out.below hb)
            clear HG2
            have HG2 := HG2n
            clear HG2n
            have HZn := Lib.hid (HZ.out.below hb)
            clear HZ
            have HZ := HZn
            clear HZn
            clear hb
            refine hK.out _ _ (HSI.out _ HG0.out) (fun hHeld2 => ?_)
            clear hK K
            try simp only [Act.put, List.getElem_toArray, List.getElem_cons_zero, List.getElem_cons_succ, List.setIfInBounds_toArray, List.set_cons_zero, List.set_cons_succ]
            refine wpAnyH_ready (rs := [4]) (by kernel_rfl) (by simp) ?_
            refine ready_one rfl rfl (fun K hK => ?_)
            go_simp
            refine (HFG U2 HG2.out).out.mono ?_
            rintro e U3 ⟨g, rfl, hm, hb⟩
            have HG2m := Lib.hid hm
            clear hm
            go_wp2_with fail
            have HG0n := Lib.hid (chain HG0.out hb)
            clear HG0
            have HG0 := HG0n
            clear HG0n
            clear HG2
            have HG2 := HG2m
            clear HG2m
            have HZn := Lib.hid (HZ.out.below hb)
            clear HZ
            have HZ := HZn
            clear HZn
            clear hb
            refine hK.out _ _ (HSI.out _ HG0.out) (fun hHeld3 => ?_)
            clear hK K
            try simp only [Act.put, List.getElem_toArray, List.getElem_cons_zero, List.getElem_cons_succ, List.setIfInBounds_toArray, List.set_cons_zero, List.set_cons_succ]
            refine wpAnyH_ready (rs := [5]) (by kernel_rfl) (by simp) ?_
            refine ready_one rfl rfl (fun K hK => ?_)
            go_simp
            refine (HTG g U3 HG2.out).out.mono ?_
            rintro e U4 ⟨v, rfl, hr, hb⟩
            obtain ⟨av, nv, cv, rfl⟩ := hr.isSlice
            have HNE : Hid (∀ g, (Value.slice av nv cv).ownBlock = some g → g ≠ B) := Lib.hid (fun g hg => by have h1 := (hr.lt g hg).1; have h2 := HZ.out.lt; omega)
            have HG3 : Hid (RowA U4 V.heap.size (.slice av nv cv) X.ad) := Lib.hid (hr.mono HG0.out.size)
            clear hr
            go_wp2_with fail
            have HG0n := Lib.hid (chain HG0.out hb)
            clear HG0
            have HG0 := HG0n
            clear HG0n
            have HG2n := Lib.hid (HG2.out.below hb)
            clear HG2
            have HG2 := HG2n
            clear HG2n
            have HZn := Lib.hid (HZ.out.below hb)
            clear HZ
            have HZ := HZn
            clear HZn
            clear hb
            refine hK.out _ _ (HSI.out _ HG0.out) (fun hHeld4 => ?_)
            clear hK K
            try simp only [Act.put, List.getElem_toArray, List.getElem_cons_zero, List.getElem_cons_succ, List.setIfInBounds_toArray, List.set_cons_zero, List.set_cons_succ]
            refine wpAnyH_ready (rs := [7]) (by kernel_rfl) (by simp) ?_
            refine ready_one rfl rfl (fun K hK => ?_)
            refine wp_store_of HZ rfl hsT _ _ rfl rfl rfl (vs := tldL X (.slice av nv cv)) rfl rfl rfl (fun Xw HX HXC => ?_)
            have HSX : Hid (S Xw) := Lib.hid (HSO.out _ HG0.out B HBL.out _ _ HX.out)
            refine hK.out _ _ HSX.out (fun hHeldX => ?_)
            clear hK K
            try simp only [Act.put, List.getElem_toArray, List.getElem_cons_zero, List.getElem_cons_succ, List.setIfInBounds_toArray, List.set_cons_zero, List.set_cons_succ]
            refine wpAnyH_done (by kernel_rfl) ?_ _
            refine NoPanic.normal ?_
            clear hHeld1 hHeld2 hHeld3 hHeld4 hHeldX
            go_wp2_with fail
            go_meet
            case rel => exact ⟨B, _, _, rfl, Lib.hid HXC.out, Lib.hid ((HG3.out.kept2 (w' := Xw) (fun g hg => by rw [HX.out]; exact heap_setCells_other _ _ _ _ _ (HNE.out g hg)))), Lib.hid (by rw [HX.out]; exact below_cells HBL.out _ _ _ HG0.out)⟩
        case rest =>
          obtain ⟨B2, v2, Bt2, rfl, HT2, HRo2, HBl2⟩ := hcut
          have hbb : Below wA.heap.size wA wc := chain (Below.refl _ _).drew HBl2.out
          have HT1c := Lib.hid (HT1.out.below hbb)
          have HRo1c := Lib.hid (HRo1.out.below hbb)
          have HBc := Lib.hid (chain HB4.out hbb)
          clear hbb HT1 HRo1 HB4 HBl2 HQ4 HG4 HAS0 HFG HTG
          obtain ⟨xe, xa, xt, xn, xs⟩ := X
          obtain ⟨b1, d1, rfl, m1⟩ := HRo1c.out.ads
          obtain ⟨b2, d2, rfl, m2⟩ := HRo2.out.ads
          have hl : xa.length ≤ 1000 := HRo2.out.2.2
          have HS := Lib.hid (sameAdsC_any b1 b2 d1 d2 xa xa wc m1.1 m2.1 (by omega) (by omega))
          simp only [decide_true] at HS
          simp only [tldL] at HT1c HT2
          generalize xa.length = n at *
          clear m1 m2 hl HRo1c HRo2
          have x0 := HT1c.out.cell 0 _ rfl
          have x1 := HT1c.out.cell 1 _ rfl
          have y0 := HT2.out.cell 0 _ rfl
          have y1 := HT2.out.cell 1 _ rfl
          go_wp2_with fail
          refine HS.out.mono ?_
          rintro e2 wd ⟨rfl, hb⟩
          have H3 := Lib.hid (HT1c.out.below hb)
          have H4 := Lib.hid (HT2.out.below hb)
          have HB5 := Lib.hid (chain HBc.out hb)
          clear hb x0 x1 y0 y1 HS HT1c HT2 HBc
          have x2 := H3.out.cell 2 _ rfl
          have x3 := H3.out.cell 3 _ rfl
          have x4 := H3.out.cell 4 _ rfl
          have y2 := H4.out.cell 2 _ rfl
          have y3 := H4.out.cell 3 _ rfl
          have y4 := H4.out.cell 4 _ rfl
          go_wp2_with fail
          refine (HLV wd).out.mono ?_
          rintro e3 we ⟨rfl, hbe⟩
          have HB6 := Lib.hid (chain HB5.out hbe)
          clear hbe
          go_wp2_with fail
          go_ret
          exact ⟨rfl, HB6.out⟩

theorem contract (H : Type) (enc : TypeId × Value → H) (W : World) (base : Nat) (args : Array Value) (ds gs : List (DataW H)) (before : List MemPlace)
    (hval0 : ∀ (j : Nat) t v, Try.f9.params[j]? = some t → args[j]? = some v → Value.okWide Try.prog W .any base t v)
    (hW : DataW.Whole enc Try.prog Try.f9.params.toList Rows.matchLettersSpec.vars false W args.toList ds gs before) (hk : Rows.uptoSmall H (ds ++ gs) = true) :
    Calls Try.prog 9 args W fun e W' => ∃ v, e = .returned v ∧ Rows.matchLettersSpec.post enc Try.prog Try.f9 false true false false W args v W' := by
  have hkb : ∀ d ∈ ds, Rows.uptoBulk d ≤ 1048576 := fun d hd => Nat.le_trans (bulk_mem (List.mem_append_left _ hd)) (of_decide_eq_true hk)
  clear hk
  have hval : ∀ (j : Nat) t v, Try.f9.params[j]? = some t → args[j]? = some v → Value.okWide Try.prog W .any base t v := hval0
  have hW' := hW
  obtain ⟨p, q, hA0, hV, rfl, hfz, hnd⟩ := hW
  have hA : DataW.TrodAll enc Try.prog W 0 (fun _ => true) true Try.f9.params.toList args.toList ds p := hA0
  rw [Try.params9] at hA hval
  obtain ⟨v0, vs0, d0, ds0, p0, q0, hargs, rfl, rfl, h0, r0⟩ := trodAll_cons hA
  obtain ⟨v1, vs1, d1, ds1, p1, q1, rfl, rfl, rfl, h1, r1⟩ := trodAll_cons r0
  obtain ⟨rfl, rfl, rfl⟩ := trodAll_nil r1
  obtain rfl : args = #[v0, v1] := by cases args; simp_all
  obtain ⟨rfl, rfl⟩ := trodVars_none hV
  have k0 := h0
  have lt0 : ∀ x ∈ p0, x.block < W.heap.size := by obtain ⟨m, hm⟩ := k0; exact DataW.trod_lt m _ _ _ hm
  obtain ⟨q0, rfl, w0⟩ := open_qry (hval 0 23 v0 rfl rfl) h0
  replace w0 := w0.wider (hkb d0 (by simp))
  obtain ⟨a1, len1, cap1, rfl⟩ := okWide_slice Try.underlying25 (hval 1 25 v1 rfl rfl)
  have k1 := h1
  have lt1 : ∀ x ∈ p1, x.block < W.heap.size := by obtain ⟨m, hm⟩ := k1; exact DataW.trod_lt m _ _ _ hm
  obtain ⟨z1, w1⟩ : ∃ D, RecsIn W a1 len1 cap1 D (Rows.uptoBulk d1) := by
    obtain ⟨fuel, hf⟩ := h1
    obtain ⟨xa, xl, xc, D, hcs, hw⟩ := open_recs hf
    simp [Value.cells] at hcs
    obtain ⟨rfl, rfl, rfl⟩ := hcs
    exact ⟨D, hw⟩
  replace w1 := w1.wider2 (hkb d1 (by simp))
  clear hA0 hval0
  refine (walk q0 a1 len1 cap1 z1 W w0 w1).mono fun e W' ⟨he, bel⟩ => ?_
  subst he
  exact ⟨_, rfl, _, _, _, [], _, [], hW', trodAll_mk1 (shut_bool Try.underlying4 _), (trodAll_cons_mk (Below.trod laidOut (by kernel_rfl) (of_decide_eq_true (by kernel_rfl)) k0 bel lt0) (trodAll_cons_mk (Below.trod laidOut (by kernel_rfl) (of_decide_eq_true (by kernel_rfl)) k1 bel lt1) trodAll_mk0)), rfl, bel.frame _, fun h => by cases h⟩

set_option maxRecDepth 100000 in
theorem lifted (os : Os) (started : os.Started) (H : Type) (enc : TypeId × Value → H) (F : Stop.Interp) :
    ReturnsInHanded {} Try.checked os 9 .any ((Rows.OpenSpec.upto Rows.matchLettersSpec).pre6 enc Try.prog Try.f9 Rows.matchLettersUptoRow.domain false) (((Rows.OpenSpec.upto Rows.matchLettersSpec).at F).post enc Try.prog Try.f9 false true false false) := by
  refine returnsInHanded_of_cond (C := Try.checked) (s := Rows.OpenSpec.upto Rows.matchLettersSpec) (k := Rows.uptoSmall) rfl own started (by kernel_rfl) Try.func9
    (OpenSpec.witness (enc := enc) (C := Try.checked) (s := Rows.OpenSpec.upto Rows.matchLettersSpec) (k := Rows.uptoSmall) rfl false ⟨#[], #[.agg #[.int .i64 0, .string ByteArray.empty, .int .i64 0, .int .i64 0], .slice none 0 0], []⟩ 8 (by kernel_rfl) (by kernel_rfl) (by kernel_rfl)
      (x := ([.agg [.lit (.int .i64 0), .lit (.string []), .lit (.int .i64 0), .lit (.int .i64 0)], .nil], [], [])) (by kernel_rfl) rfl (by kernel_rfl)) ?_
  intro W base args ds gs before hval hW _ hk _
  exact contract H enc W base args ds gs before hval hW hk

theorem proved : Rows.MatchLettersUptoSaid :=
  OpenClaim.holds_of_cond 9 Try.f9 rfl rfl rfl rfl rfl rfl rfl ⟨rfl, rfl, rfl, rfl, rfl⟩ rfl rfl rfl rfl rfl (by kernel_rfl) Try.func9 (by kernel_rfl)
    (of_decide_eq_true (by kernel_rfl)) (by unfold Func.isWrapper; first | (rw [if_pos (by decide +kernel)]; kernel_rfl) | (rw [if_neg (by decide +kernel)]; exact ⟨rfl, rfl⟩))
    (fun os started H enc _ F => lifted os started H enc F)
#print axioms proved
end Go.Proofs.Ytmecdhlehekdeaa.matchLetters

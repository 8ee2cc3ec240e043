/- Texts that belong together, one behind the other: LabRead, RdKit, RdNum, LabSpell, RdS, RdData, RdWays, RdSpec, LabWr, RdMap, RdMake. -/
import Derived.Test.YtedmkdjijhflnaaGreatE6
import Derived.WalkMore
import Derived.Laws.BitsLemmas
import Derived.Deep.Cut
import Derived.Laws.IdiomCopy
import Derived.Maps.OwnSet
import Derived.WalkArith
import Derived.MapKept
set_option linter.unusedVariables false
set_option linter.unusedSimpArgs false
set_option maxRecDepth 20000
namespace Go.Proofs.YtedmkdjijhflnaaGreat
open Go.RowKit

theorem joinS_own {w : World} {B : Nat} {v : Value} {l : List ByteArray} (h : w.ownsRow B 9 1 v l.length (l.map Value.string)) (hz : sizeL l ≤ 255) :
    Calls Tryz.prog 142 #[v, .string ⟨#[46]⟩] w fun e w' => e = .returned (.string (joinB l ⟨#[46]⟩)) ∧ Below w.heap.size w w' := by
  have hsp := sizeL_pos l
  by_cases h0 : 0 < l.length
  · obtain ⟨g, c, rfl, hg, hr⟩ := own_row h h0
    have hj := joinB_data l
    have := Tryz.strings_Join g 0 c l ⟨#[46]⟩ w (fun j x hx => by
      have hj : j < l.length := (List.getElem?_eq_some_iff.1 hx).1
      rw [Nat.zero_add, hr.cells j hj, List.getD_eq_getElem?_getD, hx]
      rfl) hr.lt (by omega) hr.cap (by
      rw [show (⟨#[46]⟩ : ByteArray).data.toList = [46] from rfl, ← hj, data_size]
      have := joinB_size l
      omega)
    rw [show (⟨#[46]⟩ : ByteArray).data.toList = [46] from rfl, ← hj] at this
    exact this
  · obtain rfl : l = [] := List.eq_nil_of_length_eq_zero (by omega)
    obtain ⟨a, c, rfl, _⟩ := own_RowS h
    refine (Tryz.strings_Join_none a c ⟨#[46]⟩ w).mono ?_
    rintro e w' ⟨rfl, rfl⟩
    exact ⟨rfl, Below.refl _ _⟩
def nxJ : Option Nat → Int
  | none => 0
  | some n => (n : Int)
set_option maxRecDepth 100000 in
set_option maxHeartbeats 4000000 in
theorem read_any (a : Option Addr) (cap : Nat) (bs : List UInt8) (at0 : Nat) (w : World) (hB : BytesIn w a cap bs) (hat : at0 ≤ bs.length) (hbl : bs.length ≤ 100000) :
    Calls Tryz.prog 135 #[.slice a bs.length cap, .int .i64 (at0 : Int)] w fun e w' => e = .returned (.tuple #[.string (readB bs (at0 + 1) at0 [] none).1, .int .i64 (((readB bs (at0 + 1) at0 [] none).2.1 : Nat) : Int), .int .i64 (readB bs (at0 + 1) at0 [] none).2.2]) ∧ Below w.heap.size w w' := by
  have HBI := Lib.hid hB
  have HR0 := Lib.hid (RdSt.start bs at0)
  obtain ⟨i0, hi0, hz0, hz1, hz2⟩ := info_parts Tryz.infoString
  generalize readB bs (at0 + 1) at0 [] none = R at *
  obtain ⟨N, hN⟩ : ∃ N, bs.length = N := ⟨_, rfl⟩
  have HN := Lib.hid hN
  have hcl := hB.1
  have hcm : cap ≤ 9223372036854775807 := by have := hB.2.1; unfold maxLen at this; omega
  rw [hN] at hat hbl hcl ⊢
  clear hB hN
  have FIN : ∀ (wr : World) (s : ByteArray) (nx : Nat) (er : Int), Hid (Below w.heap.size w wr → R = (s, nx, er) → (Ending.returned (.tuple #[.string s, .int .i64 (nx : Int), .int .i64 er]) = Ending.returned (.tuple #[.string R.1, .int .i64 ((R.2.1 : Nat) : Int), .int .i64 R.2.2]) ∧ Below w.heap.size w wr)) := fun wr s nx er => Lib.hid (fun h1 h2 => by
    rw [h2]; exact ⟨rfl, h1⟩)
  go_enter Tryz.func135, Tryz.ntmps135
  go_wp2_with fail
  go_step3
  go_wp2_with fail
  go_step3
  go_wp2_with fail
  go_loopw [1, 7, 8, 9, 10] (fun s1 s7 s8 s9 s10 wr => ∃ (i b : Nat) (l : List ByteArray) (v : Value) (nx : Option Nat), i ≤ N ∧ b ≤ N ∧ v = s7 ∧ s1 = .int .i64 (i : Int) ∧ s8 = .int .i64 ((sizeL l : Nat) : Int) ∧ s9 = .int .i64 (b : Int) ∧ s10 = .int .i64 (nxJ nx) ∧ Hid (∀ m, nx = some m → 1 ≤ m ∧ m ≤ N) ∧ Hid (RdSt bs R i b l nx) ∧ Hid (wr.ownsRow w.heap.size 9 1 v l.length (l.map Value.string)) ∧ Hid (Below w.heap.size w wr)) (fun s1 _ _ s9 _ _ => (intOf s9).toNat * (N + 2) + (N + 1 - (intOf s1).toNat))
  case atStart => exact ⟨at0, at0, [], _, none, hat, hat, rfl, rfl, rfl, rfl, rfl, Lib.hid (fun m h => by cases h), HR0, Lib.hid (World.ownsRow_nil _ _ _ _), Lib.hid (Below.refl _ _)⟩
  case round =>
    clear HR0
    obtain ⟨i, b, l, v, nx, hi, hbN, rfl, rfl, rfl, rfl, rfl, HNX, HST, HO, HB⟩ := hrel
    have hsz := HST.out.small
    have hsp := sizeL_pos l
    have hd0 : decide ((i : Int) < 0) = false := decide_eq_false (by omega)
    have hwz := HB.out.size
    by_cases hiN : N ≤ i
    · have hd : decide ((N : Int) ≤ (i : Int)) = true := decide_eq_true (by omega)
      have hdn : decide (N ≤ i) = true := decide_eq_true hiN
      have HE := Lib.hid ((FIN wr ⟨#[]⟩ 0 2).out HB.out (HST.out.out (by rw [HN.out]; exact hiN)))
      clear HST HO HB FIN HNX
      generalize sizeL l = z at *
      go_wp2_with fail
      try rw [Exit.noGoto_ret]
      go_ret3
      exact HE.out
    · have hd : decide ((N : Int) ≤ (i : Int)) = false := decide_eq_false (by omega)
      have hdn : decide (N ≤ i) = false := decide_eq_false hiN
      obtain ⟨_, hcm0, hrow⟩ := HBI.out
      rcases hrow with h0 | ⟨x, rfl, hcells⟩
      · rw [HN.out] at h0; omega
      have hib : i < bs.length := by rw [HN.out]; omega
      have hcw := hcells i hib
      have hgd : bs.getD i 0 = bs[i] := by rw [List.getD_eq_getElem?_getD, List.getElem?_eq_getElem hib]; rfl
      have HCK : Hid (∀ j (h : j < bs.length), wr.cell? (x.add j) = some (.int .u8 ((bs[j].toNat : Nat) : Int))) := Lib.hid (fun j hj => by rw [HB.out.cell (p := x.add j) (World.block_lt_of_cell? w _ (hcells j hj))]; exact hcells j hj)
      have hcell := HCK.out i hib
      have hu := bs[i].toNat_lt
      obtain ⟨n, hn⟩ : ∃ n, bs[i].toNat = n := ⟨_, rfl⟩
      have HGD : Hid ((bs.getD i 0).toNat = n) := Lib.hid (by rw [hgd, hn])
      have HGE : Hid ((bs.drop i).getD 0 0 = bs.getD i 0) := Lib.hid (by rw [List.getD_eq_getElem?_getD, List.getElem?_drop, Nat.add_zero, ← List.getD_eq_getElem?_getD])
      have HDL : Hid ((bs.drop i).length = N - i) := Lib.hid (by rw [List.length_drop, HN.out])
      rw [hn] at hcell hu
      have hb1 : (0 : Int) ≤ (i : Int) := by omega
      have hb2 : (i : Int) < (N : Int) := by omega
      have hib2 : i < N := by omega
      have hnw : IntKind.i64.wrap (n : Int) = (n : Int) := by rw [IntKind.wrap_i64]; omega
      clear hcw hgd hcells hn
      by_cases hn0 : n = 0
      · have HRR := Lib.hid (HST.out.zero hib (by rw [HGD.out]; exact hn0))
        have HJO := Lib.hid (joinS_own HO.out HST.out.small)
        subst hn0
        generalize sizeL l = z at *
        generalize joinB l ⟨#[46]⟩ = J at *
        have hwi : IntKind.i64.wrap ((i : Int) + 1) = (i : Int) + 1 := by rw [IntKind.wrap_i64]; omega
        rcases nx with _ | m
        · have hnn : nxJ none = 0 := rfl
          rw [hnn]
          have HE := fun W => Lib.hid ((FIN W J (i + 1) 0).out)
          have hcast : (((i + 1 : Nat) : Nat) : Int) = (i : Int) + 1 := by omega
          rw [hcast] at HE
          clear FIN HST hnn HNX HCK hcast
          go_wp2_with fail
          refine HJO.out.mono ?_
          rintro e w5 ⟨rfl, hb5⟩
          have HB5 := Lib.hid (chain HB.out hb5)
          clear HJO hb5
          go_wp2_with fail
          try rw [Exit.noGoto_ret]
          go_ret3
          exact (HE _).out HB5.out HRR.out
        · have hnn : nxJ (some m) = (m : Int) := rfl
          rw [hnn]
          have hm := HNX.out m rfl
          have he10 : ((m : Int) == 0) = false := by rw [beq_eq_false_iff_ne]; omega
          have HE := fun W => Lib.hid ((FIN W J m 0).out)
          clear FIN HST hnn HNX HCK
          go_wp2_with fail
          refine HJO.out.mono ?_
          rintro e w5 ⟨rfl, hb5⟩
          have HB5 := Lib.hid (chain HB.out hb5)
          clear HJO hb5
          go_wp2_with fail
          try rw [Exit.noGoto_ret]
          go_ret3
          exact (HE _).out HB5.out HRR.out
      · have he0 : ((n : Int) == 0) = false := by rw [beq_eq_false_iff_ne]; omega
        by_cases h63 : n ≤ 63
        · have hd63 : decide ((n : Int) ≤ 63) = true := decide_eq_true (by omega)
          have hd63n : decide (n ≤ 63) = true := decide_eq_true h63
          have HLO := Lib.hid (labelOf_any (x.add i) (bs.drop i) (cap - i) wr (by rw [HDL.out]; omega) (by omega) (by rw [HDL.out]; omega) (fun j hj => by
            have hj2 : i + j < bs.length := by rw [HDL.out] at hj; rw [HN.out]; omega
            rw [add_add, HCK.out (i + j) hj2, List.getElem_drop]))
          have HLB : Hid (labOf (bs.drop i) = if N - i < 1 + n then (⟨#[]⟩, false) else (ownAt bs i n, !has8 (ownAt bs i n) 46)) := Lib.hid (by
            unfold labOf
            rw [HDL.out, HGE.out, HGD.out]
            have e : ownAt (bs.drop i) 0 n = ownAt bs i n := by
              unfold ownAt
              rw [List.drop_drop]
            rw [e])
          rw [HDL.out] at HLO
          have hck : ¬ cap = i := by omega
          have hck2 : ¬ i = cap := by omega
          have hcs : i ≤ cap := by omega
          have hb3 : (i : Int) ≤ (N : Int) := by omega
          have hib3 : i ≤ N := by omega
          by_cases hshort : N < i + 1 + n
          · have HRR := HST.out.short hib (by rw [HGD.out]; exact hn0) (by rw [HGD.out]; exact h63) (by rw [HGD.out, HN.out]; exact hshort)
            have HE := Lib.hid ((FIN wr ⟨#[]⟩ 0 2).out HB.out HRR)
            rw [show labOf (bs.drop i) = (⟨#[]⟩, false) by rw [HLB.out, if_pos (by omega)]] at HLO
            clear HLB HRR FIN HST HNX HCK
            generalize sizeL l = z at *
            go_wp2_with fail
            refine HLO.out.mono ?_
            rintro e w2 ⟨rfl, rfl⟩
            clear HLO
            go_wp2_with fail
            try rw [Exit.noGoto_ret]
            go_ret3
            exact HE.out
          · have HOA := HLB.out
            rw [if_neg (by omega)] at HOA
            rw [HOA] at HLO
            have hos : (ownAt bs i n).size = n := ownAt_size (by rw [HN.out]; omega)
            cases hhas : has8 (ownAt bs i n) 46 with
            | true =>
              have HRR := HST.out.dot hib (by rw [HGD.out]; exact hn0) (by rw [HGD.out]; exact h63) (by rw [HGD.out, HN.out]; omega) (by rw [HGD.out]; exact hhas)
              have HE := Lib.hid ((FIN wr ⟨#[]⟩ 0 2).out HB.out HRR)
              rw [hhas] at HLO
              generalize ownAt bs i n = own at *
              clear HLB HRR FIN HST HNX HCK HOA hhas
              generalize sizeL l = z at *
              go_wp2_with fail
              refine HLO.out.mono ?_
              rintro e w2 ⟨rfl, rfl⟩
              clear HLO
              go_wp2_with fail
              try rw [Exit.noGoto_ret]
              go_ret3
              exact HE.out
            | false =>
              rw [hhas] at HLO
              have hzs := size_snoc l (ownAt bs i n)
              have HLONG := Lib.hid (HST.out.long hib (by rw [HGD.out]; exact hn0) (by rw [HGD.out]; exact h63) (by rw [HGD.out, HN.out]; omega) (by rw [HGD.out]; exact hhas))
              have HLAB := Lib.hid (HST.out.lab hib (by rw [HGD.out]; exact hn0) (by rw [HGD.out]; exact h63) (by rw [HGD.out, HN.out]; omega) (by rw [HGD.out]; exact hhas))
              rw [HGD.out] at HLONG HLAB
              have hO2 : l.length ≤ 255 := by omega
              generalize ownAt bs i n = own at *
              clear HLB HST HCK HOA hhas
              by_cases hz255 : 255 < sizeL l + 1 + n
              · have HE := Lib.hid ((FIN wr ⟨#[]⟩ 0 3).out HB.out (HLONG.out (by omega)))
                clear HLONG HLAB FIN HNX hzs
                generalize sizeL l = z at *
                have hd5 : decide (255 < (z : Int) + (1 + (n : Int))) = true := decide_eq_true (by omega)
                go_wp2_with fail
                refine HLO.out.mono ?_
                rintro e w2 ⟨rfl, rfl⟩
                clear HLO
                go_wp2_with fail
                try rw [Exit.noGoto_ret]
                go_ret3
                exact HE.out
              · have HST2 := Lib.hid (HLAB.out (by omega))
                clear HLONG HLAB FIN
                have HZ : Hid (sizeL (l ++ [own]) = sizeL l + 1 + n) := Lib.hid (by rw [hzs, hos])
                clear hzs
                generalize sizeL l = z at *
                have hd5 : decide (255 < (z : Int) + (1 + (n : Int))) = false := decide_eq_false (by omega)
                go_wp2_with fail
                refine HLO.out.mono ?_
                rintro e w2 ⟨rfl, rfl⟩
                clear HLO
                have hown := HO.out
                have hbel := HB.out
                clear HO HB
                go_wp2_with (at_builtin; refine wpList_append_own _ rfl (.tmp 54) (.tmp 56) 131 rfl w.heap.size 9 i0 _ 1 16 Tryz.underlying131 hi0 hz0 hz1 hz2 rfl (by decide) _ _ _ rfl (hown.alloc _) ⟨w2.heap.size, 0, none⟩ 1 1 [.string own] rfl rfl ?c1 ?c2 ?c3 ?c4 ?c5 ?_)
                case c1 => exact cell_one_new _ _ _
                case c2 => intro u hu; simp at hu; subst hu; rfl
                case c3 => unfold maxLen; omega
                case c4 => omega
                case c5 => simp; omega
                intro v' w3 hown' hgrow _
                obtain ⟨R1, R2⟩ := own_snoc hown' hgrow hown hbel
                clear hown' hgrow hown hbel
                have HR1 := Lib.hid R1
                have HR2 := Lib.hid R2
                clear R1 R2
                generalize l ++ [own] = l2 at *
                go_wp2_with fail
                go_roundw
                case rel => exact ⟨i + 1 + n, b, l2, _, nx, by omega, hbN, rfl, by go_num, by rw [HZ.out]; go_num, rfl, rfl, HNX, HST2, HR1, HR2⟩
                case measure => simp [intOf]; omega
        · have hd63 : decide ((n : Int) ≤ 63) = false := decide_eq_false (by omega)
          have hd63n : decide (n ≤ 63) = false := decide_eq_false h63
          by_cases h192 : 192 ≤ n
          · have hd192 : decide (192 ≤ (n : Int)) = true := decide_eq_true (by omega)
            have hd192n : decide (192 ≤ n) = true := decide_eq_true h192
            have hck : ¬ cap = i := by omega
            have hck2 : ¬ i = cap := by omega
            have hcs : i ≤ cap := by omega
            have hb3 : (i : Int) ≤ (N : Int) := by omega
            have hib3 : i ≤ N := by omega
            by_cases hlast : N ≤ i + 1
            · have HRR := HST.out.ptr1 hib (by rw [HGD.out]; exact h192) (by rw [HN.out]; exact hlast)
              have HE := fun W => Lib.hid ((FIN W ⟨#[]⟩ 0 2).out)
              have HR3 := Lib.hid HRR
              have HPL := Lib.hid (placeOf_short (x.add i) (cap - i) (N - i) wr (by omega))
              clear HRR FIN HST HNX HCK
              generalize sizeL l = z at *
              go_wp2_with fail
              refine HPL.out.mono ?_
              rintro e w2 ⟨rfl, hb2⟩
              replace HB := Lib.hid (chain HB.out hb2)
              clear HPL hb2
              go_wp2_with fail
              try rw [Exit.noGoto_ret]
              go_ret3
              exact (HE _).out HB.out HR3.out
            · have hi1 : i + 1 < bs.length := by rw [HN.out]; omega
              have hu2 := bs[i + 1].toNat_lt
              have hc2 := HCK.out (i + 1) hi1
              have HTO : Hid (toAt bs i = (n - 192) * 256 + bs[i + 1].toNat) := Lib.hid (by
                unfold toAt
                rw [HGD.out, List.getD_eq_getElem?_getD, List.getElem?_eq_getElem hi1]
                rfl)
              generalize bs[i + 1].toNat = q2 at *
              have HPL := Lib.hid (placeOf_any (x.add i) (cap - i) (N - i) n q2 wr (by omega) (by omega) (by omega) h192 hu hu2 hcell (by rw [add_add]; exact hc2))
              rw [← HTO.out] at HPL
              have HP2 := Lib.hid (HST.out.ptr2 hib (by rw [HGD.out]; exact h192) hi1)
              have HP3 := Lib.hid (HST.out.ptr hib (by rw [HGD.out]; exact h192) hi1)
              have hT : toAt bs i ≤ 16383 := by rw [HTO.out]; omega
              generalize toAt bs i = T at *
              clear HTO HST HCK hc2
              by_cases hto : b ≤ T
              · have hd16 : decide ((b : Int) ≤ (T : Int)) = true := decide_eq_true (by omega)
                have hd16n : decide (b ≤ T) = true := decide_eq_true hto
                have HE := fun W => Lib.hid ((FIN W ⟨#[]⟩ 0 2).out)
                have HR3 := Lib.hid (HP2.out hto)
                clear FIN HP2 HP3 HNX
                generalize sizeL l = z at *
                go_wp2_with fail
                refine HPL.out.mono ?_
                rintro e w2 ⟨rfl, hb2⟩
                replace HB := Lib.hid (chain HB.out hb2)
                clear HPL hb2
                go_wp2_with fail
                try rw [Exit.noGoto_ret]
                go_ret3
                exact (HE _).out HB.out HR3.out
              · have hd16 : decide ((b : Int) ≤ (T : Int)) = false := decide_eq_false (by omega)
                have hd16n : decide (b ≤ T) = false := decide_eq_false hto
                have HST2 := Lib.hid (HP3.out (by omega))
                have hms := meas8 (T := T) (b := b) (N := N) (i := i) (by omega)
                clear FIN HP2 HP3
                obtain ⟨z, hzz⟩ : ∃ z, sizeL l = z := ⟨_, rfl⟩
                rw [hzz] at hsz hsp ⊢
                have HZ2 := Lib.hid hzz
                clear hzz
                have HO2 := fun W (hb : Below wr.heap.size wr W) => Lib.hid (own_below8 HO.out hb)
                rcases nx with _ | m
                · have hnn : nxJ none = 0 := rfl
                  rw [hnn]
                  clear hnn HNX HO
                  go_wp2_with fail
                  refine HPL.out.mono ?_
                  rintro e w2 ⟨rfl, hb2⟩
                  replace HB := Lib.hid (chain HB.out hb2)
                  replace HO2 := HO2 _ hb2
                  clear HPL hb2
                  go_wp2_with fail
                  go_roundw
                  case rel => exact ⟨T, T, l, v, some (i + 2), by omega, by omega, rfl, rfl, by rw [HZ2.out], rfl, by show _ = Value.int .i64 (((i + 2 : Nat) : Nat) : Int); congr 1, Lib.hid (fun m hm => by cases hm; omega), HST2, HO2, HB⟩
                  case measure => simp [intOf]; omega
                · have hnn : nxJ (some m) = (m : Int) := rfl
                  rw [hnn]
                  have hm := HNX.out m rfl
                  have he10 : ((m : Int) == 0) = false := by rw [beq_eq_false_iff_ne]; omega
                  clear hnn HO
                  go_wp2_with fail
                  refine HPL.out.mono ?_
                  rintro e w2 ⟨rfl, hb2⟩
                  replace HB := Lib.hid (chain HB.out hb2)
                  replace HO2 := HO2 _ hb2
                  clear HPL hb2
                  go_wp2_with fail
                  go_roundw
                  case rel => exact ⟨T, T, l, v, some m, by omega, by omega, rfl, rfl, by rw [HZ2.out], rfl, rfl, HNX, HST2, HO2, HB⟩
                  case measure => simp [intOf]; omega
          · have hd192 : decide (192 ≤ (n : Int)) = false := decide_eq_false (by omega)
            have hd192n : decide (192 ≤ n) = false := decide_eq_false h192
            have HRR := HST.out.bad hib (by rw [HGD.out]; omega) (by rw [HGD.out]; omega)
            have HE := Lib.hid ((FIN wr ⟨#[]⟩ 0 2).out HB.out HRR)
            clear HRR FIN HST HNX HCK
            generalize sizeL l = z at *
            go_wp2_with fail
            try rw [Exit.noGoto_ret]
            go_ret3
            exact HE.out
end Go.Proofs.YtedmkdjijhflnaaGreat
namespace Go.Proofs.YtedmkdjijhflnaaGreat
open Go.RowKit

structure RdAt (w : World) (G : Nat) (ad : Option Addr) (c : Nat) (bs : List UInt8) (at0 : Nat) (e : Int) : Prop where
  cells : CellsAt w G [.slice ad bs.length c, .int .i64 (at0 : Int), .int .i64 e]
  bytes : BytesIn2 w ad c bs
  off : ∀ x, ad = some x → bs.length ≠ 0 → x.block ≠ G
  le : at0 ≤ bs.length
theorem BytesIn2.setCell {w : World} {ad : Option Addr} {c : Nat} {l : List UInt8} (h : BytesIn2 w ad c l) {G : Nat} (hG : ∀ x, ad = some x → l.length ≠ 0 → x.block ≠ G) (k : Nat) (v : Value) : BytesIn2 (w.setCell ⟨G, k, none⟩ v) ad c l := by
  obtain ⟨⟨h1, h2, h3⟩, h4⟩ := h
  refine ⟨⟨h1, h2, ?_⟩, h4⟩
  rcases h3 with h3 | ⟨x, e, h3⟩
  · exact .inl h3
  · refine .inr ⟨x, e, fun i hi => ?_⟩
    rw [World.cell?_setCell_far _ _ _ _ (by
      have := hG x e (by omega)
      unfold Addr.add
      split <;> exact fun h => this h.symm)]
    exact h3 i hi
theorem Foot.ofSet (w : World) (G k : Nat) (v : Value) : Foot [G] [G] w (w.setCell ⟨G, k, none⟩ v) := by
  have hb : Below 0 w (w.setCell ⟨G, k, none⟩ v) := (Below.refl 0 w).setCell (p := ⟨G, k, none⟩) (Nat.zero_le _) v
  exact ⟨hb.os, hb.tape, hb.output, by simp, fun j hj hn => heap_setCell_other _ _ _ _ (fun e => hn (by rw [e]; exact List.mem_singleton.2 rfl)), fun j hj => .inl hj⟩
section
variable {w w' : World} {G : Nat} {ad : Option Addr} {c : Nat} {bs : List UInt8} {at0 : Nat} {e : Int}
theorem RdAt.below (h : RdAt w G ad c bs at0 e) (hb : Below w.heap.size w w') : RdAt w' G ad c bs at0 e := ⟨h.cells.below hb, h.bytes.below hb, h.off, h.le⟩
theorem RdAt.setAt (h : RdAt w G ad c bs at0 e) (n : Nat) (hn : n ≤ bs.length) : RdAt (w.setCell ⟨G, 1, none⟩ (.int .i64 (n : Int))) G ad c bs n e :=
  ⟨h.cells.set 1 _ (by show 1 < 3; decide), h.bytes.setCell h.off 1 _, h.off, hn⟩
theorem RdAt.setE (h : RdAt w G ad c bs at0 e) (x : Int) : RdAt (w.setCell ⟨G, 2, none⟩ (.int .i64 x)) G ad c bs at0 x :=
  ⟨h.cells.set 2 _ (by show 2 < 3; decide), h.bytes.setCell h.off 2 _, h.off, h.le⟩
end
def flE (e x : Int) : Int := if e = 0 then x else e
set_option maxRecDepth 100000 in
set_option maxHeartbeats 1000000 in
theorem fail_any {w : World} {G : Nat} {ad : Option Addr} {c : Nat} {bs : List UInt8} {at0 : Nat} {e : Int} (h : RdAt w G ad c bs at0 e) (x : Int) :
    Calls Tryz.prog 110 #[.pointer (some ⟨G, 0, none⟩), .int .i64 x] w fun e' w' => e' = .returned (.tuple #[]) ∧ RdAt w' G ad c bs at0 (flE e x) ∧ Foot [G] [G] w w' := by
  have x2 := h.cells.cell 2 _ rfl
  have f2 := h.cells.live 2 (by show 2 < 3; decide)
  have HR := Lib.hid (h.setE x)
  have HH := Lib.hid h
  clear h
  by_cases he : e = 0
  · have hd : (e == 0) = true := by rw [he]; rfl
    have HE : Hid (flE e x = x) := Lib.hid (if_pos he)
    clear he
    go_enter Tryz.func110, Tryz.ntmps110
    go_wp2_with fail
    go_end0
    exact ⟨rfl, by rw [HE.out]; exact HR.out, Foot.ofSet _ _ _ _⟩
  · have hd : (e == 0) = false := by simpa using he
    have HE : Hid (flE e x = e) := Lib.hid (if_neg he)
    clear he
    go_enter Tryz.func110, Tryz.ntmps110
    go_wp2_with fail
    go_end0
    exact ⟨rfl, by rw [HE.out]; exact HH.out, Foot.ofBelow _ (Below.refl _ _)⟩
def tkE (bs : List UInt8) (at0 : Nat) (e : Int) (n : Nat) : Int := if bs.length - at0 < n then flE e 2 else e
def tkL (bs : List UInt8) (at0 : Nat) (e : Int) (n : Nat) : List UInt8 := if tkE bs at0 e n = 0 then (bs.drop at0).take n else []
def tkA (bs : List UInt8) (at0 : Nat) (e : Int) (n : Nat) : Nat := if tkE bs at0 e n = 0 then at0 + n else at0
theorem flE_two (e : Int) : flE e 2 ≠ 0 := by unfold flE; split <;> omega
theorem run_slice_in (ad : Option Addr) (c N lo hi : Nat) (h1 : lo ≤ hi) (h2 : hi ≤ c) (w : World) : (Instr.sliceAt 38 (.slice ad N c) (some (.int .i64 (lo : Int))) (some (.int .i64 (hi : Int))) none).run Tryz.prog w = .ok (.slice (if c = lo then ad else ad.map (fun x => x.add (lo * 1))) (hi - lo) (c - lo)) w := by
  obtain ⟨i0, hi0, hz0, hz1, hz2⟩ := info_parts Tryz.infoByte
  have hu : (underlying 38).run Tryz.prog w = .ok _ w := run_underlying Tryz.underlying38 w
  have hsz : (sizeOf 5).run Tryz.prog w = .ok 1 w := by simp [sizeOf, typeInfo, hi0, hz1]
  unfold Instr.sliceAt Instr.slice Instr.sliceBounds
  simp only [Sem.run_bind, hu, Result.andThen_ok, hsz, Sem.run_pure, run_sliceBound w .i64 (hi : Int) c _ (by omega) (by omega), Int.toNat_natCast, run_sliceBound w .i64 (lo : Int) hi _ (by omega) (by omega)]
theorem BytesIn2.cut {w : World} {ad : Option Addr} {c : Nat} {bs : List UInt8} (h : BytesIn2 w ad c bs) (lo n : Nat) (hl : lo + n ≤ bs.length) : BytesIn2 w (if c = lo then ad else ad.map (fun x => x.add (lo * 1))) (c - lo) ((bs.drop lo).take n) := by
  obtain ⟨⟨h1, h2, h3⟩, h4⟩ := h
  have hlen : ((bs.drop lo).take n).length = n := by rw [List.length_take, List.length_drop]; omega
  refine ⟨⟨by rw [hlen]; omega, by omega, ?_⟩, fun e => ?_⟩
  · by_cases hn : n = 0
    · exact .inl (by rw [hlen]; exact hn)
    · rcases h3 with h3 | ⟨x, e, h3⟩
      · omega
      · refine .inr ⟨x.add (lo * 1), ?_, fun i hi => ?_⟩
        · rw [if_neg (by omega), e]; rfl
        · rw [hlen] at hi
          have hadd : (x.add (lo * 1)).add i = x.add (lo + i) := by
            rw [Nat.mul_one]
            by_cases h0 : lo = 0
            · rw [h0, Nat.zero_add]; rfl
            · by_cases hi0 : i = 0
              · rw [hi0, Nat.add_zero]; simp [Addr.add]
              · simp [Addr.add, h0, hi0, Nat.add_assoc]
          rw [hadd, h3 (lo + i) (by omega)]
          simp
  · by_cases hc : c = lo
    · rw [if_pos hc] at e; rw [h4 e]; omega
    · rw [if_neg hc] at e
      cases ad with
      | none => rw [h4 rfl]; omega
      | some y => cases e
def TkRet (G : Nat) (l : List UInt8) (e' : Ending) (w' : World) : Prop := ∃ a' c', e' = .returned (.slice a' l.length c') ∧ BytesIn2 w' a' c' l ∧ True
set_option maxRecDepth 100000 in
set_option maxHeartbeats 2000000 in
theorem take_any {w : World} {G : Nat} {ad : Option Addr} {c : Nat} {bs : List UInt8} {at0 : Nat} {e : Int} (h : RdAt w G ad c bs at0 e) (n : Nat) (hn : n ≤ 4294967295) (hbl : bs.length ≤ 100000) :
    Calls Tryz.prog 123 #[.pointer (some ⟨G, 0, none⟩), .int .i64 (n : Int)] w fun e' w' => TkRet G (tkL bs at0 e n) e' w' ∧ RdAt w' G ad c bs (tkA bs at0 e n) (tkE bs at0 e n) ∧ Foot [G] [G] w w' := by
  have HR := Lib.hid h
  have hle := h.le
  obtain ⟨N, hN⟩ : ∃ N, bs.length = N := ⟨_, rfl⟩
  have x0 := h.cells.cell 0 _ rfl
  have x1 := h.cells.cell 1 _ rfl
  rw [hN] at x0 hle hbl
  have HN := Lib.hid hN
  clear h hN
  have hnw : IntKind.i64.wrap ((N : Int) - (at0 : Int)) = (N : Int) - (at0 : Int) := by rw [IntKind.wrap_i64]; omega
  by_cases hs : N - at0 < n
  · have hd : decide ((N : Int) - (at0 : Int) < (n : Int)) = true := decide_eq_true (by omega)
    have HE : Hid (tkE bs at0 e n = flE e 2) := Lib.hid (by unfold tkE; rw [HN.out, if_pos hs])
    go_enter Tryz.func123, Tryz.ntmps123
    go_upto_region 1 with fail
    obtain ⟨S, hS⟩ : ∃ S : World → Prop, (fun V => V.cell? ⟨G, 0, none⟩ = some (.slice ad N c) ∧ V.cell? ⟨G, 1, none⟩ = some (.int .i64 (at0 : Int))) = S := ⟨_, rfl⟩
    have C0 : Hid (∀ V, S V → V.cell? ⟨G, 0, none⟩ = some (.slice ad N c)) := Lib.hid (fun V h => by rw [← hS] at h; exact h.1)
    have C1 : Hid (∀ V, S V → V.cell? ⟨G, 1, none⟩ = some (.int .i64 (at0 : Int))) := Lib.hid (fun V h => by rw [← hS] at h; exact h.2)
    have HSS : Hid (S w.drew) := Lib.hid (by rw [← hS]; exact ⟨x0, x1⟩)
    clear hS x0 x1
    refine wp_region_noPanic ?_
    refine wp_region_held_drew (S := S) (by kernel_rfl) HSS.out (fun hHeld => ?_)
    clear HSS
    refine tkT 0 ?_ rfl (Or.inl ⟨by rfl, ?_⟩) ?_
    rotate_left
    · (intro w hSw; go_simp; try (with_reducible rfl))
    try simp only [Act.put, pZ]
    refine tkT 1 ?_ rfl (Or.inl ⟨by rfl, ?_⟩) ?_
    rotate_left
    · (intro w hSw; go_simp; try (with_reducible rfl))
    try simp only [Act.put, pZ]
    refine tkT 2 ?_ rfl (Or.inl ⟨by rfl, ?_⟩) ?_
    rotate_left
    · (intro w hSw; go_simp; try (with_reducible rfl))
    try simp only [Act.put, pZ]
    refine tkT 3 ?_ rfl (Or.inl ⟨by rfl, ?_⟩) ?_
    rotate_left
    · (intro w hSw; go_simp; try (with_reducible rfl))
    try simp only [Act.put, pZ]
    refine tkT 4 ?_ rfl (Or.inl ⟨by rfl, ?_⟩) ?_
    rotate_left
    · (intro w hSw; have hc0 := C0.out w hSw; go_simp; try (with_reducible rfl))
    try simp only [Act.put, pZ]
    refine tkT 5 ?_ rfl (Or.inl ⟨by rfl, ?_⟩) ?_
    rotate_left
    · (intro w hSw; go_simp; try (with_reducible rfl))
    try simp only [Act.put, pZ]
    refine tkT 6 ?_ rfl (Or.inl ⟨by rfl, ?_⟩) ?_
    rotate_left
    · (intro w hSw; go_simp; try (with_reducible rfl))
    try simp only [Act.put, pZ]
    refine tkT 7 ?_ rfl (Or.inl ⟨by rfl, ?_⟩) ?_
    rotate_left
    · (intro w hSw; go_simp; try (with_reducible rfl))
    try simp only [Act.put, pZ]
    refine tkT 8 ?_ rfl (Or.inl ⟨by rfl, ?_⟩) ?_
    rotate_left
    · (intro w hSw; go_simp; try (with_reducible rfl))
    try simp only [Act.put, pZ]
    refine tkT 9 ?_ rfl (Or.inl ⟨by rfl, ?_⟩) ?_
    rotate_left
    · (intro w hSw; have hc0 := C1.out w hSw; go_simp; try (with_reducible rfl))
    try simp only [Act.put, pZ]
    refine tkT 10 ?_ rfl (Or.inl ⟨by rfl, ?_⟩) ?_
    rotate_left
    · (intro w hSw; go_simp; try (with_reducible rfl))
    try simp only [Act.put, pZ]
    refine tkT 11 ?_ rfl (Or.inl ⟨by rfl, ?_⟩) ?_
    rotate_left
    · (intro w hSw; go_simp; try (with_reducible rfl))
    try simp only [Act.put, pZ]
    refine wpAnyH_done (by kernel_rfl) ?_ _
    refine NoPanic.normal ?_
    clear C0 C1 hHeld
    have HRD := Lib.hid (HR.out.below (Below.refl _ _).drew)
    have HFD := Lib.hid (Foot.ofBelow [G] (Below.refl w.heap.size w).drew)
    obtain ⟨U, hU⟩ : ∃ U, w.drew = U := ⟨_, rfl⟩
    rw [hU] at HRD HFD ⊢
    clear hU
    go_wp2_with fail
    refine (fail_any HRD.out 2).mono ?_
    rintro e' w1 ⟨rfl, h1, h2⟩
    have HR1 := Lib.hid h1
    have HF1 := Lib.hid (HFD.out.trans h2)
    have x2 := HR1.out.cells.cell 2 _ rfl
    have hne : (flE e 2 != 0) = true := by simpa using flE_two e
    have HL : Hid (tkL bs at0 e n = [] ∧ tkA bs at0 e n = at0) := Lib.hid (by unfold tkL tkA; rw [HE.out]; exact ⟨if_neg (flE_two e), if_neg (flE_two e)⟩)
    generalize flE e 2 = e2 at *
    clear h1 h2
    go_wp2_with fail
    go_ret
    rw [HE.out, HL.out.1, HL.out.2]
    exact ⟨⟨none, 0, rfl, ⟨⟨Nat.le_refl _, Nat.zero_le _, .inl rfl⟩, fun _ => rfl⟩, trivial⟩, HR1.out, HF1.out⟩
  · have hd : decide ((N : Int) - (at0 : Int) < (n : Int)) = false := decide_eq_false (by omega)
    have HE : Hid (tkE bs at0 e n = e) := Lib.hid (by unfold tkE; rw [HN.out, if_neg hs])
    by_cases he : e = 0
    · have hz : (e != 0) = false := by rw [he]; rfl
      have HL : Hid (tkL bs at0 e n = (bs.drop at0).take n ∧ tkA bs at0 e n = at0 + n) := Lib.hid (by unfold tkL tkA; rw [HE.out]; exact ⟨if_pos he, if_pos he⟩)
      have HB := HR.out.bytes.1
      have hc1 : N ≤ c := by rw [← HN.out]; exact HB.1
      have hc2 : c ≤ 9223372036854775807 := by have := HB.2.1; unfold maxLen at this; exact this
      have hn2 : at0 + n ≤ N := by omega
      have hb1 : (0 : Int) ≤ (at0 : Int) := by omega
      have hb2 : (at0 : Int) ≤ ((at0 + n : Nat) : Int) := by omega
      have hb3 : ((at0 + n : Nat) : Int) ≤ (c : Int) := by omega
      have hw1 : IntKind.i64.wrap ((at0 : Int) + (n : Int)) = ((at0 + n : Nat) : Int) := by rw [IntKind.wrap_i64]; omega
      have hw2 : IntKind.i64.wrap (((at0 + n : Nat) : Int) - (n : Int)) = (at0 : Int) := by rw [IntKind.wrap_i64]; omega
      clear HB
      go_enter Tryz.func123, Tryz.ntmps123
      go_upto_region 1 with fail
      obtain ⟨S, hS⟩ : ∃ S : World → Prop, (fun V => V.cell? ⟨G, 0, none⟩ = some (.slice ad N c) ∧ V.cell? ⟨G, 1, none⟩ = some (.int .i64 (at0 : Int))) = S := ⟨_, rfl⟩
      have C0 : Hid (∀ V, S V → V.cell? ⟨G, 0, none⟩ = some (.slice ad N c)) := Lib.hid (fun V h => by rw [← hS] at h; exact h.1)
      have C1 : Hid (∀ V, S V → V.cell? ⟨G, 1, none⟩ = some (.int .i64 (at0 : Int))) := Lib.hid (fun V h => by rw [← hS] at h; exact h.2)
      have HSS : Hid (S w.drew) := Lib.hid (by rw [← hS]; exact ⟨x0, x1⟩)
      clear hS x0 x1
      refine wp_region_noPanic ?_
      refine wp_region_held_drew (S := S) (by kernel_rfl) HSS.out (fun hHeld => ?_)
      clear HSS
      refine tkT 0 ?_ rfl (Or.inl ⟨by rfl, ?_⟩) ?_
      rotate_left
      · (intro w hSw; go_simp; try (with_reducible rfl))
      try simp only [Act.put, pZ]
      refine tkT 1 ?_ rfl (Or.inl ⟨by rfl, ?_⟩) ?_
      rotate_left
      · (intro w hSw; go_simp; try (with_reducible rfl))
      try simp only [Act.put, pZ]
      refine tkT 2 ?_ rfl (Or.inl ⟨by rfl, ?_⟩) ?_
      rotate_left
      · (intro w hSw; go_simp; try (with_reducible rfl))
      try simp only [Act.put, pZ]
      refine tkT 3 ?_ rfl (Or.inl ⟨by rfl, ?_⟩) ?_
      rotate_left
      · (intro w hSw; go_simp; try (with_reducible rfl))
      try simp only [Act.put, pZ]
      refine tkT 4 ?_ rfl (Or.inl ⟨by rfl, ?_⟩) ?_
      rotate_left
      · (intro w hSw; have hc0 := C0.out w hSw; go_simp; try (with_reducible rfl))
      try simp only [Act.put, pZ]
      refine tkT 5 ?_ rfl (Or.inl ⟨by rfl, ?_⟩) ?_
      rotate_left
      · (intro w hSw; go_simp; try (with_reducible rfl))
      try simp only [Act.put, pZ]
      refine tkT 6 ?_ rfl (Or.inl ⟨by rfl, ?_⟩) ?_
      rotate_left
      · (intro w hSw; go_simp; try (with_reducible rfl))
      try simp only [Act.put, pZ]
      refine tkT 7 ?_ rfl (Or.inl ⟨by rfl, ?_⟩) ?_
      rotate_left
      · (intro w hSw; go_simp; try (with_reducible rfl))
      try simp only [Act.put, pZ]
      refine tkT 8 ?_ rfl (Or.inl ⟨by rfl, ?_⟩) ?_
      rotate_left
      · (intro w hSw; go_simp; try (with_reducible rfl))
      try simp only [Act.put, pZ]
      refine tkT 9 ?_ rfl (Or.inl ⟨by rfl, ?_⟩) ?_
      rotate_left
      · (intro w hSw; have hc0 := C1.out w hSw; go_simp; try (with_reducible rfl))
      try simp only [Act.put, pZ]
      refine tkT 10 ?_ rfl (Or.inl ⟨by rfl, ?_⟩) ?_
      rotate_left
      · (intro w hSw; go_simp; try (with_reducible rfl))
      try simp only [Act.put, pZ]
      refine tkT 11 ?_ rfl (Or.inl ⟨by rfl, ?_⟩) ?_
      rotate_left
      · (intro w hSw; go_simp; try (with_reducible rfl))
      try simp only [Act.put, pZ]
      refine wpAnyH_done (by kernel_rfl) ?_ _
      refine NoPanic.normal ?_
      clear C0 C1 hHeld
      have HRD := Lib.hid (HR.out.below (Below.refl _ _).drew)
      have HFD := Lib.hid (Foot.ofBelow [G] (Below.refl w.heap.size w).drew)
      obtain ⟨U, hU⟩ : ∃ U, w.drew = U := ⟨_, rfl⟩
      rw [hU] at HRD HFD ⊢
      clear hU
      have x1 := HRD.out.cells.cell 1 _ rfl
      have x2 := HRD.out.cells.cell 2 _ rfl
      have hf1 := HRD.out.cells.live 1 (by show 1 < 3; decide)
      have HR2 := Lib.hid (HRD.out.setAt (at0 + n) (by rw [HN.out]; omega))
      have HF2 := Lib.hid (HFD.out.trans (Foot.ofSet U G 1 (.int .i64 ((at0 + n : Nat) : Int))))
      rw [he] at x2
      go_upto_region 6 with fail
      obtain ⟨K, hK⟩ : ∃ K : Int, (at0 : Int) + (n : Int) = K := ⟨_, rfl⟩
      rw [hK]
      have hKN : ((at0 + n : Nat) : Int) = K := by rw [← hK]; omega
      rw [hKN] at hb2 hb3 hw1 hw2
      have HR3 : Hid (RdAt (U.setCell ⟨G, 1, none⟩ (.int .i64 K)) G ad c bs (at0 + n) e) := Lib.hid (by have := HR2.out; rw [hKN] at this; exact this)
      have HF3 : Hid (Foot [G] [G] w (U.setCell ⟨G, 1, none⟩ (.int .i64 K))) := Lib.hid (by have := HF2.out; rw [hKN] at this; exact this)
      have y0 := HR3.out.cells.cell 0 _ rfl
      have y1 := HR3.out.cells.cell 1 _ rfl
      rw [HN.out] at y0
      rw [hKN] at y1
      have HKK := Lib.hid hKN
      clear HR2 HF2 HRD HFD x1 x2 hf1 hK hKN hw1
      obtain ⟨V, hV⟩ : ∃ V, U.setCell ⟨G, 1, none⟩ (.int .i64 K) = V := ⟨_, rfl⟩
      rw [hV] at HR3 HF3 y0 y1 ⊢
      clear hV
      have HR4 := Lib.hid (HR3.out.below (Below.refl _ _).drew)
      have HF4 := Lib.hid (HF3.out.trans (Foot.ofBelow [G] (Below.refl V.heap.size V).drew))
      obtain ⟨S, hS⟩ : ∃ S : World → Prop, (fun V => V.cell? ⟨G, 0, none⟩ = some (.slice ad N c) ∧ V.cell? ⟨G, 1, none⟩ = some (.int .i64 K)) = S := ⟨_, rfl⟩
      have C0 : Hid (∀ V, S V → V.cell? ⟨G, 0, none⟩ = some (.slice ad N c)) := Lib.hid (fun V h => by rw [← hS] at h; exact h.1)
      have C1 : Hid (∀ V, S V → V.cell? ⟨G, 1, none⟩ = some (.int .i64 K)) := Lib.hid (fun V h => by rw [← hS] at h; exact h.2)
      have HSS : Hid (S V.drew) := Lib.hid (by rw [← hS]; exact ⟨y0, y1⟩)
      clear hS y0 y1 HR3 HF3
      have HKN2 : Hid (K.toNat = at0 + n) := Lib.hid (by have := HKK.out; omega)
      have CSL : Hid (∀ V, S V → (Instr.sliceAt 38 (.slice ad N c) (some (.int .i64 (at0 : Int))) (some (.int .i64 K)) none).run Tryz.prog V = .ok (.slice (if c = at0 then ad else ad.map (fun x => x.add (at0 * 1))) n (c - at0)) V) := Lib.hid (fun V _ => by
        have := run_slice_in ad c N at0 (at0 + n) (by omega) (by omega) V
        rw [HKK.out, Nat.add_sub_cancel_left] at this
        exact this)
      have HBC := Lib.hid (HR4.out.bytes.cut at0 n (by rw [HN.out]; exact hn2))
      obtain ⟨az, haz⟩ : ∃ az, (if c = at0 then ad else ad.map (fun x => x.add (at0 * 1))) = az := ⟨_, rfl⟩
      rw [haz] at CSL HBC
      clear haz
      refine wp_region_noPanic ?_
      refine wp_region_held_drew (S := S) (by kernel_rfl) HSS.out (fun hHeld => ?_)
      clear HSS
      refine tkT 0 ?_ rfl (Or.inl ⟨by rfl, ?_⟩) ?_
      rotate_left
      · (intro w hSw; go_simp; try (with_reducible rfl))
      try simp only [Act.put, pZ]
      refine tkT 1 ?_ rfl (Or.inl ⟨by rfl, ?_⟩) ?_
      rotate_left
      · (intro w hSw; go_simp; try (with_reducible rfl))
      try simp only [Act.put, pZ]
      refine tkT 2 ?_ rfl (Or.inl ⟨by rfl, ?_⟩) ?_
      rotate_left
      · (intro w hSw; go_simp; try (with_reducible rfl))
      try simp only [Act.put, pZ]
      refine tkT 3 ?_ rfl (Or.inl ⟨by rfl, ?_⟩) ?_
      rotate_left
      · (intro w hSw; have hc0 := C0.out w hSw; go_simp; try (with_reducible rfl))
      try simp only [Act.put, pZ]
      refine tkT 4 ?_ rfl (Or.inl ⟨by rfl, ?_⟩) ?_
      rotate_left
      · (intro w hSw; go_simp; try (with_reducible rfl))
      try simp only [Act.put, pZ]
      refine tkT 5 ?_ rfl (Or.inl ⟨by rfl, ?_⟩) ?_
      rotate_left
      · (intro w hSw; go_simp; try (with_reducible rfl))
      try simp only [Act.put, pZ]
      refine tkT 6 ?_ rfl (Or.inl ⟨by rfl, ?_⟩) ?_
      rotate_left
      · (intro w hSw; go_simp; try (with_reducible rfl))
      try simp only [Act.put, pZ]
      refine tkT 7 ?_ rfl (Or.inl ⟨by rfl, ?_⟩) ?_
      rotate_left
      · (intro w hSw; have hc0 := C1.out w hSw; go_simp; try (with_reducible rfl))
      try simp only [Act.put, pZ]
      refine tkT 8 ?_ rfl (Or.inl ⟨by rfl, ?_⟩) ?_
      rotate_left
      · (intro w hSw; go_simp; try (with_reducible rfl))
      try simp only [Act.put, pZ]
      refine tkT 9 ?_ rfl (Or.inl ⟨by rfl, ?_⟩) ?_
      rotate_left
      · (intro w hSw; go_simp; try (with_reducible rfl))
      try simp only [Act.put, pZ]
      refine tkT 10 ?_ rfl (Or.inl ⟨by rfl, ?_⟩) ?_
      rotate_left
      · (intro w hSw; go_simp; try (with_reducible rfl))
      try simp only [Act.put, pZ]
      refine tkT 11 ?_ rfl (Or.inl ⟨by rfl, ?_⟩) ?_
      rotate_left
      · (intro w hSw; go_simp; try (with_reducible rfl))
      try simp only [Act.put, pZ]
      refine tkT 12 ?_ rfl (Or.inl ⟨by rfl, ?_⟩) ?_
      rotate_left
      · (intro w hSw; go_simp; try (with_reducible rfl))
      try simp only [Act.put, pZ]
      refine tkT 13 ?_ rfl (Or.inl ⟨by rfl, ?_⟩) ?_
      rotate_left
      · (intro w hSw; have hc0 := C1.out w hSw; go_simp; try (with_reducible rfl))
      try simp only [Act.put, pZ]
      refine tkT 14 ?_ rfl (Or.inl ⟨by rfl, ?_⟩) ?_
      rotate_left
      · (intro w hSw; have hc0 := CSL.out w hSw; go_simp; try (with_reducible rfl))
      try simp only [Act.put, pZ]
      refine tkT 15 ?_ rfl (Or.inl ⟨by rfl, ?_⟩) ?_
      rotate_left
      · (intro w hSw; go_simp; try (with_reducible rfl))
      try simp only [Act.put, pZ]
      refine wpAnyH_done (by kernel_rfl) ?_ _
      refine NoPanic.normal ?_
      go_wp2_with fail
      go_ret
      rw [HE.out, HL.out.1, HL.out.2]
      exact ⟨⟨az, c - at0, by rw [List.length_take, List.length_drop, HN.out, Nat.min_eq_left (by omega)]; rfl, HBC.out, trivial⟩, HR4.out, HF4.out⟩
    · have hz : (e != 0) = true := by simpa using he
      have HL : Hid (tkL bs at0 e n = [] ∧ tkA bs at0 e n = at0) := Lib.hid (by unfold tkL tkA; rw [HE.out]; exact ⟨if_neg he, if_neg he⟩)
      clear he
      go_enter Tryz.func123, Tryz.ntmps123
      go_upto_region 1 with fail
      obtain ⟨S, hS⟩ : ∃ S : World → Prop, (fun V => V.cell? ⟨G, 0, none⟩ = some (.slice ad N c) ∧ V.cell? ⟨G, 1, none⟩ = some (.int .i64 (at0 : Int))) = S := ⟨_, rfl⟩
      have C0 : Hid (∀ V, S V → V.cell? ⟨G, 0, none⟩ = some (.slice ad N c)) := Lib.hid (fun V h => by rw [← hS] at h; exact h.1)
      have C1 : Hid (∀ V, S V → V.cell? ⟨G, 1, none⟩ = some (.int .i64 (at0 : Int))) := Lib.hid (fun V h => by rw [← hS] at h; exact h.2)
      have HSS : Hid (S w.drew) := Lib.hid (by rw [← hS]; exact ⟨x0, x1⟩)
      clear hS x0 x1
      refine wp_region_noPanic ?_
      refine wp_region_held_drew (S := S) (by kernel_rfl) HSS.out (fun hHeld => ?_)
      clear HSS
      refine tkT 0 ?_ rfl (Or.inl ⟨by rfl, ?_⟩) ?_
      rotate_left
      · (intro w hSw; go_simp; try (with_reducible rfl))
      try simp only [Act.put, pZ]
      refine tkT 1 ?_ rfl (Or.inl ⟨by rfl, ?_⟩) ?_
      rotate_left
      · (intro w hSw; go_simp; try (with_reducible rfl))
      try simp only [Act.put, pZ]
      refine tkT 2 ?_ rfl (Or.inl ⟨by rfl, ?_⟩) ?_
      rotate_left
      · (intro w hSw; go_simp; try (with_reducible rfl))
      try simp only [Act.put, pZ]
      refine tkT 3 ?_ rfl (Or.inl ⟨by rfl, ?_⟩) ?_
      rotate_left
      · (intro w hSw; go_simp; try (with_reducible rfl))
      try simp only [Act.put, pZ]
      refine tkT 4 ?_ rfl (Or.inl ⟨by rfl, ?_⟩) ?_
      rotate_left
      · (intro w hSw; have hc0 := C0.out w hSw; go_simp; try (with_reducible rfl))
      try simp only [Act.put, pZ]
      refine tkT 5 ?_ rfl (Or.inl ⟨by rfl, ?_⟩) ?_
      rotate_left
      · (intro w hSw; go_simp; try (with_reducible rfl))
      try simp only [Act.put, pZ]
      refine tkT 6 ?_ rfl (Or.inl ⟨by rfl, ?_⟩) ?_
      rotate_left
      · (intro w hSw; go_simp; try (with_reducible rfl))
      try simp only [Act.put, pZ]
      refine tkT 7 ?_ rfl (Or.inl ⟨by rfl, ?_⟩) ?_
      rotate_left
      · (intro w hSw; go_simp; try (with_reducible rfl))
      try simp only [Act.put, pZ]
      refine tkT 8 ?_ rfl (Or.inl ⟨by rfl, ?_⟩) ?_
      rotate_left
      · (intro w hSw; go_simp; try (with_reducible rfl))
      try simp only [Act.put, pZ]
      refine tkT 9 ?_ rfl (Or.inl ⟨by rfl, ?_⟩) ?_
      rotate_left
      · (intro w hSw; have hc0 := C1.out w hSw; go_simp; try (with_reducible rfl))
      try simp only [Act.put, pZ]
      refine tkT 10 ?_ rfl (Or.inl ⟨by rfl, ?_⟩) ?_
      rotate_left
      · (intro w hSw; go_simp; try (with_reducible rfl))
      try simp only [Act.put, pZ]
      refine tkT 11 ?_ rfl (Or.inl ⟨by rfl, ?_⟩) ?_
      rotate_left
      · (intro w hSw; go_simp; try (with_reducible rfl))
      try simp only [Act.put, pZ]
      refine wpAnyH_done (by kernel_rfl) ?_ _
      refine NoPanic.normal ?_
      clear C0 C1 hHeld
      have HRD := Lib.hid (HR.out.below (Below.refl _ _).drew)
      have HFD := Lib.hid (Foot.ofBelow [G] (Below.refl w.heap.size w).drew)
      obtain ⟨U, hU⟩ : ∃ U, w.drew = U := ⟨_, rfl⟩
      rw [hU] at HRD HFD ⊢
      clear hU
      have x2 := HRD.out.cells.cell 2 _ rfl
      go_wp2_with fail
      go_ret
      rw [HE.out, HL.out.1, HL.out.2]
      exact ⟨⟨none, 0, rfl, ⟨⟨Nat.le_refl _, Nat.zero_le _, .inl rfl⟩, fun _ => rfl⟩, trivial⟩, HRD.out, HFD.out⟩
end Go.Proofs.YtedmkdjijhflnaaGreat
namespace Go.Proofs.YtedmkdjijhflnaaGreat
open Go.RowKit

def valB (l : List UInt8) : Nat := l.foldl (fun n x => n * 256 + x.toNat) 0
theorem valB_snoc (l : List UInt8) (x : UInt8) : valB (l ++ [x]) = valB l * 256 + x.toNat := by unfold valB; rw [List.foldl_append]; rfl
theorem valB_aux : ∀ (l : List UInt8) (k n : Nat), n < 256 ^ k → l.foldl (fun n x => n * 256 + x.toNat) n < 256 ^ (k + l.length)
  | [], k, n, h => h
  | x :: l, k, n, h => by
    have hx := x.toNat_lt
    have := valB_aux l (k + 1) (n * 256 + x.toNat) (by rw [Nat.pow_succ]; omega)
    rw [List.foldl_cons, List.length_cons, show k + (l.length + 1) = k + 1 + l.length by omega]
    exact this
theorem valB_lt (l : List UInt8) : valB l < 256 ^ l.length := by
  have := valB_aux l 0 0 (by decide)
  rwa [Nat.zero_add] at this
theorem valB_small {l : List UInt8} (h : l.length ≤ 3) : valB l ≤ 16777215 := by
  have h1 := valB_lt l
  have h2 : 256 ^ l.length ≤ 256 ^ 3 := Nat.pow_le_pow_right (by decide) h
  have h3 : 256 ^ 3 = 16777216 := by decide
  omega
set_option maxRecDepth 100000 in
set_option maxHeartbeats 2000000 in
theorem number_any {w : World} {G : Nat} {ad : Option Addr} {c : Nat} {bs : List UInt8} {at0 : Nat} {e : Int} (h : RdAt w G ad c bs at0 e) (n : Nat) (hn : n ≤ 4) (hbl : bs.length ≤ 100000) :
    Calls Tryz.prog 106 #[.pointer (some ⟨G, 0, none⟩), .int .i64 (n : Int)] w fun e' w' => e' = .returned (.int .i64 ((valB (tkL bs at0 e n) : Nat) : Int)) ∧ RdAt w' G ad c bs (tkA bs at0 e n) (tkE bs at0 e n) ∧ Foot [G] [G] w w' := by
  have HT := Lib.hid (take_any h n (by omega) hbl)
  have HLN : Hid ((tkL bs at0 e n).length ≤ 4) := Lib.hid (by
    unfold tkL
    split
    · rw [List.length_take]; omega
    · exact Nat.zero_le _)
  generalize tkL bs at0 e n = l at *
  generalize tkA bs at0 e n = ax at *
  generalize tkE bs at0 e n = ex at *
  clear h
  go_enter Tryz.func106, Tryz.ntmps106
  go_wp2_with fail
  refine HT.out.mono ?_
  rintro e' w1 ⟨⟨a', c', rfl, hb, _⟩, hr, hf⟩
  have HB := Lib.hid hb
  have HR := Lib.hid hr
  have HF := Lib.hid hf
  clear hb hr hf HT
  obtain ⟨L, hL⟩ : ∃ L, l.length = L := ⟨_, rfl⟩
  have HL := Lib.hid hL
  have hl4 : L ≤ 4 := by rw [← hL]; exact HLN.out
  rw [hL]
  clear hL HLN
  go_wp2_with fail
  go_loopw [5, 12] (fun s5 s12 wr => ∃ k : Nat, k ≤ L ∧ s5 = .int .i64 ((valB (l.take k) : Nat) : Int) ∧ s12 = .int .i64 (k : Int) ∧ Hid (Below w1.heap.size w1 wr)) (fun _ i _ => L - (intOf i).toNat)
  case atStart => exact ⟨0, Nat.zero_le _, rfl, rfl, Lib.hid (Below.refl _ _)⟩
  case round =>
    obtain ⟨k, hk, rfl, rfl, HBk⟩ := hrel
    by_cases hkL : k < L
    · have hd : decide ((k : Int) < (L : Int)) = true := decide_eq_true (by omega)
      have hdn : decide (k < L) = true := decide_eq_true hkL
      have hkl : k < l.length := by rw [HL.out]; exact hkL
      obtain ⟨x, hx, hcx⟩ : ∃ x, a' = some x ∧ wr.cell? (x.add k) = some (.int .u8 ((l[k].toNat : Nat) : Int)) := by
        have hb := HB.out.below HBk.out
        rcases hb.1.2.2 with h0 | ⟨x, e, h0⟩
        · omega
        · exact ⟨x, e, h0 k hkl⟩
      subst hx
      have hcL : L ≤ c' := by rw [← HL.out]; exact HB.out.1.1
      have HNX : Hid (valB (l.take (k + 1)) = valB (l.take k) * 256 + l[k].toNat) := Lib.hid (by rw [List.take_add_one, List.getElem?_eq_getElem hkl]; exact valB_snoc _ _)
      have hv : valB (l.take k) ≤ 16777215 := valB_small (by rw [List.length_take]; omega)
      have hq := l[k].toNat_lt
      generalize l[k].toNat = q at *
      generalize valB (l.take k) = v at *
      have hw1 : IntKind.i64.wrap ((v : Int) * 256) = (v : Int) * 256 := by rw [IntKind.wrap_i64]; omega
      have hw2 : IntKind.i64.wrap (q : Int) = (q : Int) := by rw [IntKind.wrap_i64]; omega
      have hor : bits .or .i64 ((v : Int) * 256) (q : Int) = ((v * 256 + q : Nat) : Int) := by
        rw [bits_join .i64 32 (by decide) (fun n h0 h1 => by rw [IntKind.wrap_i64]; omega) 8 ((v : Int) * 256) q (by omega) (by omega) (by omega) (by omega) (by omega) (by omega)]
        omega
      have hb1 : (0 : Int) ≤ (k : Int) := by omega
      have hb2 : (k : Int) < (L : Int) := by omega
      obtain ⟨T, hT⟩ : ∃ T, v * 256 + q = T := ⟨_, rfl⟩
      rw [hT] at hor HNX
      clear hT
      go_wp2_with fail
      go_roundw
      case rel => exact ⟨k + 1, by omega, by rw [HNX.out], by go_num, HBk⟩
      case measure => simp [intOf]; omega
    · obtain rfl : L = k := by omega
      have hd : decide ((L : Int) < (L : Int)) = false := by simp
      have HLT : Hid (valB (l.take L) = valB l) := Lib.hid (by rw [List.take_of_length_le (by rw [HL.out]; exact Nat.le_refl _)])
      go_wp2_with fail
      go_ret
      rw [HLT.out]
      exact ⟨rfl, HR.out.below HBk.out, HF.out.trans (Foot.ofBelow _ HBk.out)⟩
end Go.Proofs.YtedmkdjijhflnaaGreat
namespace Go.Proofs.YtedmkdjijhflnaaGreat
open Go.RowKit

theorem rd_good (bs : List UInt8) (R : ByteArray × Nat × Int) (at0 : Nat) : ∀ n i b l nx, b * (bs.length + 2) + (bs.length + 1 - i) ≤ n → i ≤ bs.length → RdSt bs R i b l nx →
    (∀ p ∈ l, 1 ≤ p.size ∧ p.size ≤ 63 ∧ NoDot p) → (nx = none → at0 ≤ i) → (∀ m, nx = some m → at0 < m ∧ m ≤ bs.length) → R.2.2 = 0 → mayN R.1 = true ∧ at0 < R.2.1 ∧ R.2.1 ≤ bs.length
  | 0, i, b, l, nx, hn, hi, h, hl, h1, h2, hR => by omega
  | n + 1, i, b, l, nx, hn, hi, h, hl, h1, h2, hR => by
    by_cases hib : bs.length ≤ i
    · rw [h.out hib] at hR; exact absurd hR (by decide)
    have hi2 : i < bs.length := by omega
    by_cases hz : (bs.getD i 0).toNat = 0
    · have e := h.zero hi2 hz
      have hlab : labelsB (joinB l ⟨#[46]⟩) = l := labels_join l (fun p hp => (hl p hp).1) (fun p hp => (hl p hp).2.2)
      rw [e]
      refine ⟨?_, ?_⟩
      · show decide (MayL (labelsB (joinB l ⟨#[46]⟩))) = true
        rw [hlab]
        refine decide_eq_true ⟨fun k hk => ?_, h.small⟩
        rw [List.getD_eq_getElem?_getD, List.getElem?_eq_getElem hk]
        have := hl _ (List.getElem_mem hk)
        exact ⟨this.1, this.2.1⟩
      · show at0 < nx.getD (i + 1) ∧ nx.getD (i + 1) ≤ bs.length
        cases nx with
        | none => have := h1 rfl; exact ⟨by show at0 < i + 1; omega, by show i + 1 ≤ bs.length; omega⟩
        | some m => exact h2 m rfl
    by_cases h63 : (bs.getD i 0).toNat ≤ 63
    · by_cases hs : bs.length < i + 1 + (bs.getD i 0).toNat
      · rw [h.short hi2 hz h63 hs] at hR; exact absurd hR (by decide)
      cases hd : has8 (ownAt bs i (bs.getD i 0).toNat) 46 with
      | true => rw [h.dot hi2 hz h63 (by omega) hd] at hR; exact absurd hR (by decide)
      | false =>
        by_cases hlong : 255 < sizeL (l ++ [ownAt bs i (bs.getD i 0).toNat])
        · rw [h.long hi2 hz h63 (by omega) hd hlong] at hR; exact absurd hR (by decide)
        · refine rd_good bs R at0 n _ b _ nx (by omega) (by omega) (h.lab hi2 hz h63 (by omega) hd (by omega)) (fun p hp => ?_) (fun e => by have := h1 e; omega) h2 hR
          rcases List.mem_append.1 hp with hp | hp
          · exact hl p hp
          · rw [List.mem_singleton.1 hp]
            have hsz : (ownAt bs i (bs.getD i 0).toNat).size = (bs.getD i 0).toNat := ownAt_size (by omega)
            exact ⟨by omega, by omega, (has_free _).1 hd⟩
    · by_cases h192 : 192 ≤ (bs.getD i 0).toNat
      · by_cases hlast : bs.length ≤ i + 1
        · rw [h.ptr1 hi2 h192 hlast] at hR; exact absurd hR (by decide)
        by_cases hto : b ≤ toAt bs i
        · rw [h.ptr2 hi2 h192 (by omega) hto] at hR; exact absurd hR (by decide)
        · have hm := meas8 (T := toAt bs i) (b := b) (N := bs.length) (i := i) (by omega)
          by_cases hTl : toAt bs i ≤ bs.length
          · refine rd_good bs R at0 n _ _ l _ (by omega) hTl (h.ptr hi2 h192 (by omega) (by omega)) hl (fun e => by cases e) (fun m e => ?_) hR
            cases nx with
            | none => have := h1 rfl; cases e; exact ⟨by show at0 < i + 2; omega, by show i + 2 ≤ bs.length; omega⟩
            | some q => cases e; exact h2 q rfl
          · rw [(h.ptr hi2 h192 (by omega) (by omega)).out (by omega)] at hR; exact absurd hR (by decide)
      · rw [h.bad hi2 (by omega) (by omega)] at hR; exact absurd hR (by decide)
theorem read_good {bs : List UInt8} {at0 : Nat} (hat : at0 ≤ bs.length) (h : (readB bs (at0 + 1) at0 [] none).2.2 = 0) :
    mayN (readB bs (at0 + 1) at0 [] none).1 = true ∧ at0 < (readB bs (at0 + 1) at0 [] none).2.1 ∧ (readB bs (at0 + 1) at0 [] none).2.1 ≤ bs.length :=
  rd_good bs _ at0 _ at0 at0 [] none (Nat.le_refl _) hat (RdSt.start bs at0) (fun p hp => by cases hp) (fun _ => Nat.le_refl _) (fun m h => by cases h) h
theorem sizes_read (bs : List UInt8) (at0 : Nat) : (readB bs (at0 + 1) at0 [] none).1.size ≤ 1000 := by
  have go : ∀ f i l nx, sizeL l ≤ 255 → (readB bs f i l nx).1.size ≤ 255 := by
    intro f
    induction f with
    | zero => intro i l nx _; exact Nat.zero_le _
    | succ f ih =>
      intro i l nx hl
      rw [readB_cont]
      have hp := sizeL_pos l
      have hok := runB_ok bs (sizeL l - 1) (bs.length + 1 - i) i []
      cases hr : runB bs (sizeL l - 1) (bs.length + 1 - i) i [] with
      | mk l2 r =>
        obtain ⟨e, p, er⟩ := r
        unfold contR
        simp only
        by_cases h1 : er ≠ 0
        · rw [if_pos h1]; exact Nat.zero_le _
        rw [if_neg h1]
        have her : er = 0 := by simpa using h1
        subst her
        obtain ⟨k1, _, _, _⟩ := hok l2 e p hr (by show sizeL l - 1 + 1 ≤ 255; omega)
        have happ := sizeL_app l l2
        by_cases h2 : p = false
        · rw [if_pos h2]
          have := joinB_size (l ++ l2)
          show (joinB (l ++ l2) ⟨#[46]⟩).size ≤ 255
          omega
        rw [if_neg h2]
        by_cases h3 : bs.length ≤ e + 1
        · rw [if_pos h3]; exact Nat.zero_le _
        rw [if_neg h3]
        by_cases h4 : i ≤ toAt bs e
        · rw [if_pos h4]; exact Nat.zero_le _
        rw [if_neg h4]
        exact ih _ _ _ (by omega)
  exact Nat.le_trans (go (at0 + 1) at0 [] none (by decide)) (by decide)
inductive Sp (bs : List UInt8) : Nat → Nat → List ByteArray → Nat → Prop
  | zero {b i : Nat} (h1 : i < bs.length) (h2 : (bs.getD i 0).toNat = 0) : Sp bs b i [] (i + 1)
  | lab {b i n : Nat} {p : ByteArray} {L : List ByteArray} (h1 : i < bs.length) (h2 : (bs.getD i 0).toNat = p.size) (h3 : p.size ≠ 0) (h4 : p.size ≤ 63) (h5 : i + 1 + p.size ≤ bs.length) (h6 : ownAt bs i p.size = p) (h7 : NoDot p) (h8 : Sp bs b (i + 1 + p.size) L n) : Sp bs b i (p :: L) n
  | ptr {b i n : Nat} {L : List ByteArray} (h1 : i + 1 < bs.length) (h2 : 192 ≤ (bs.getD i 0).toNat) (h3 : toAt bs i < b) (h4 : Sp bs (toAt bs i) (toAt bs i) L n) : Sp bs b i L (i + 2)
theorem Sp.lt {bs : List UInt8} {b i n : Nat} {L : List ByteArray} (h : Sp bs b i L n) : i < bs.length := by
  cases h with
  | zero h1 h2 => exact h1
  | lab h1 => exact h1
  | ptr h1 => omega
theorem Sp.wider {bs : List UInt8} {b b' i n : Nat} {L : List ByteArray} (h : Sp bs b i L n) (hb : b ≤ b') : Sp bs b' i L n := by
  induction h generalizing b' with
  | zero h1 h2 => exact .zero h1 h2
  | lab h1 h2 h3 h4 h5 h6 h7 h8 ih => exact .lab h1 h2 h3 h4 h5 h6 h7 (ih hb)
  | ptr h1 h2 h3 h4 ih => exact .ptr h1 h2 (by omega) h4
theorem getD_more {bs x : List UInt8} {i : Nat} (h : i < bs.length) : (bs ++ x).getD i 0 = bs.getD i 0 := by
  rw [List.getD_eq_getElem?_getD, List.getD_eq_getElem?_getD, List.getElem?_append_left h]
theorem own_more8 {bs x : List UInt8} {i n : Nat} (h : i + 1 + n ≤ bs.length) : ownAt (bs ++ x) i n = ownAt bs i n := by
  unfold ownAt
  rw [List.drop_append_of_le_length (by omega), List.take_append_of_le_length (by rw [List.length_drop]; omega)]
theorem Sp.more {bs : List UInt8} {b i n : Nat} {L : List ByteArray} (h : Sp bs b i L n) (x : List UInt8) : Sp (bs ++ x) b i L n := by
  have hl : (bs ++ x).length = bs.length + x.length := List.length_append
  induction h with
  | zero h1 h2 => exact .zero (by omega) (by rw [getD_more h1]; exact h2)
  | lab h1 h2 h3 h4 h5 h6 h7 h8 ih => exact .lab (by omega) (by rw [getD_more h1]; exact h2) h3 h4 (by omega) (by rw [own_more8 h5]; exact h6) h7 ih
  | @ptr b i n L h1 h2 h3 h4 ih =>
    have e : toAt (bs ++ x) i = toAt bs i := by unfold toAt; rw [getD_more (by omega), getD_more h1]
    exact .ptr (by omega) (by rw [getD_more (by omega)]; exact h2) (by rw [e]; exact h3) (by rw [e]; exact ih)
theorem sp_read {bs : List UInt8} {R : ByteArray × Nat × Int} {b i n : Nat} {L : List ByteArray} (h : Sp bs b i L n) : ∀ l nx, RdSt bs R i b l nx → sizeL (l ++ L) ≤ 255 → R = (joinB (l ++ L) ⟨#[46]⟩, nx.getD n, 0) := by
  induction h with
  | zero h1 h2 =>
    intro l nx hr hz
    rw [List.append_nil]
    exact hr.zero h1 h2
  | @lab b i n p L h1 h2 h3 h4 h5 h6 h7 h8 ih =>
    intro l nx hr hz
    have e : l ++ p :: L = l ++ [p] ++ L := by simp
    rw [e] at hz ⊢
    have hz2 : sizeL (l ++ [p]) ≤ 255 := by
      have := sizeL_app (l ++ [p]) L
      have := sizeL_pos L
      omega
    have h9 := hr.lab h1 (by omega) (by omega) (by omega) (by rw [h2, h6]; exact (has_free p).2 h7) (by rw [h2, h6]; exact hz2)
    rw [h2, h6] at h9
    exact ih _ nx h9 hz
  | ptr h1 h2 h3 h4 ih =>
    intro l nx hr hz
    exact ih l _ (hr.ptr (by omega) h2 h1 h3) hz
theorem sp_readB {bs : List UInt8} {at0 n : Nat} {L : List ByteArray} (h : Sp bs at0 at0 L n) (hz : sizeL L ≤ 255) : readB bs (at0 + 1) at0 [] none = (joinB L ⟨#[46]⟩, n, 0) :=
  sp_read h [] none (RdSt.start bs at0) hz
theorem join_labels (s : ByteArray) : joinB (labelsB s) ⟨#[46]⟩ = s := by
  rcases Nat.eq_zero_or_pos s.size with h | h
  · rw [labels_empty h, empty_of h]; rfl
  · rw [labels_pieces h]; exact pieces_join s 46 (by decide)
theorem lab_facts (l rest : List UInt8) (p : ByteArray) (hp : p.size ≤ 63) : l.length < (l ++ labL p ++ rest).length ∧ ((l ++ labL p ++ rest).getD l.length 0).toNat = p.size ∧ l.length + 1 + p.size ≤ (l ++ labL p ++ rest).length ∧ ownAt (l ++ labL p ++ rest) l.length p.size = p := by
  have hl : (labL p).length = 1 + p.size := by unfold labL; rw [List.length_cons, data_size]; omega
  have hlen : (l ++ labL p ++ rest).length = l.length + (1 + p.size) + rest.length := by rw [List.length_append, List.length_append, hl]
  refine ⟨by omega, ?_, by omega, ?_⟩
  · rw [List.getD_eq_getElem?_getD, List.append_assoc, List.getElem?_append_right (Nat.le_refl _), Nat.sub_self]
    show (UInt8.ofNat p.size).toNat = p.size
    rw [UInt8.toNat_ofNat', Nat.mod_eq_of_lt (by omega)]
  · rw [own_more8 (by rw [List.length_append, hl]; omega)]
    unfold ownAt labL
    have e : (l ++ UInt8.ofNat p.size :: p.data.toList).drop (l.length + 1) = p.data.toList := by
      rw [← List.drop_drop, List.drop_append_of_le_length (Nat.le_refl _), List.drop_length]
      rfl
    rw [e, List.take_of_length_le (by rw [data_size]; exact Nat.le_refl _)]
def bytesC : List ByteArray → List UInt8
  | [] => [0]
  | p :: L => labL p ++ bytesC L
end Go.Proofs.YtedmkdjijhflnaaGreat
namespace Go.Proofs.YtedmkdjijhflnaaGreat
open Go.RowKit

def RdS (w : World) (G : Nat) (ad : Option Addr) (c : Nat) (bs : List UInt8) : Option Nat → Prop
  | some a => RdAt w G ad c bs a 0
  | none => ∃ a e, e ≠ 0 ∧ RdAt w G ad c bs a e
theorem RdAt.keep {w w' : World} {G : Nat} {ad : Option Addr} {c : Nat} {bs : List UInt8} {at0 : Nat} {e : Int} (h : RdAt w G ad c bs at0 e) {F F' : List Nat} (hf : Foot F F' w w') (hG : G ∉ F) (ho : ∀ x, ad = some x → bs.length ≠ 0 → x.block < w.heap.size ∧ x.block ∉ F) : RdAt w' G ad c bs at0 e := by
  have hk := hf.keep G h.cells.lt hG
  refine ⟨⟨Nat.lt_of_lt_of_le h.cells.lt hf.size, fun j u hu => (World.cell?_of_block (w := w) (a := ⟨G, 0 + j, none⟩) hk).trans (h.cells.range j u hu), fun j hj => by
    rw [World.cell?_of_block (w := w) (a := ⟨G, 0 + j, none⟩) hk, World.frozen?_of_block (w := w) (a := ⟨G, 0 + j, none⟩) hk]; exact h.cells.there j hj⟩, ⟨⟨h.bytes.1.1, h.bytes.1.2.1, ?_⟩, h.bytes.2⟩, h.off, h.le⟩
  rcases h.bytes.1.2.2 with h3 | ⟨x, e2, h3⟩
  · exact .inl h3
  · refine .inr ⟨x, e2, fun i hi => ?_⟩
    have hb := hf.keep x.block (ho x e2 (by omega)).1 (ho x e2 (by omega)).2
    rw [World.cell?_of_block (w := w) (a := x.add i) (by
      have : (x.add i).block = x.block := by unfold Addr.add; split <;> rfl
      rw [this]; exact hb)]
    exact h3 i hi
section
variable {w w' : World} {G : Nat} {ad : Option Addr} {c : Nat} {bs : List UInt8} {o : Option Nat}
theorem RdS.below (h : RdS w G ad c bs o) (hb : Below w.heap.size w w') : RdS w' G ad c bs o := by
  cases o with
  | some a => exact RdAt.below h hb
  | none => obtain ⟨a, e, he, h⟩ := h; exact ⟨a, e, he, h.below hb⟩
theorem RdS.keep (h : RdS w G ad c bs o) {F F' : List Nat} (hf : Foot F F' w w') (hG : G ∉ F) (ho : ∀ x, ad = some x → bs.length ≠ 0 → x.block < w.heap.size ∧ x.block ∉ F) : RdS w' G ad c bs o := by
  cases o with
  | some a => exact RdAt.keep h hf hG ho
  | none => obtain ⟨a, e, he, h⟩ := h; exact ⟨a, e, he, h.keep hf hG ho⟩
theorem RdS.any (h : RdS w G ad c bs o) : ∃ a e, RdAt w G ad c bs a e ∧ (o = some a ∧ e = 0 ∨ o = none ∧ e ≠ 0) := by
  cases o with
  | some a => exact ⟨a, 0, h, .inl ⟨rfl, rfl⟩⟩
  | none => obtain ⟨a, e, he, h⟩ := h; exact ⟨a, e, h, .inr ⟨rfl, he⟩⟩
end
def tkO (bs : List UInt8) (o : Option Nat) (n : Nat) : Option (List UInt8 × Nat) := o.bind fun a => if bs.length - a < n then none else some ((bs.drop a).take n, a + n)
def nuO (bs : List UInt8) (o : Option Nat) (n : Nat) : Option (Nat × Nat) := (tkO bs o n).map fun p => (valB p.1, p.2)
def naO (bs : List UInt8) (o : Option Nat) : Option (ByteArray × Nat) := o.bind fun a => if (readB bs (a + 1) a [] none).2.2 = 0 then some ((readB bs (a + 1) a [] none).1, (readB bs (a + 1) a [] none).2.1) else none
theorem tk_facts {w' : World} {G : Nat} {ad : Option Addr} {c : Nat} {bs : List UInt8} {o : Option Nat} {a : Nat} {e : Int} (n : Nat) (h : o = some a ∧ e = 0 ∨ o = none ∧ e ≠ 0) (hr : RdAt w' G ad c bs (tkA bs a e n) (tkE bs a e n)) :
    RdS w' G ad c bs ((tkO bs o n).map Prod.snd) ∧ (∀ p, tkO bs o n = some p → tkL bs a e n = p.1) ∧ (tkL bs a e n).length ≤ n := by
  have hlen : (tkL bs a e n).length ≤ n := by
    unfold tkL
    split
    · rw [List.length_take]; omega
    · exact Nat.zero_le _
  rcases h with ⟨rfl, rfl⟩ | ⟨rfl, he⟩
  · by_cases hs : bs.length - a < n
    · have h1 : tkE bs a 0 n = 2 := by unfold tkE; rw [if_pos hs]; rfl
      have h2 : tkO bs (some a) n = none := by show (if bs.length - a < n then none else _) = none; rw [if_pos hs]
      rw [h2]
      exact ⟨⟨_, _, by rw [h1]; decide, hr⟩, (fun p hp => by cases hp), hlen⟩
    · have h1 : tkE bs a 0 n = 0 := by unfold tkE; rw [if_neg hs]
      have h2 : tkO bs (some a) n = some ((bs.drop a).take n, a + n) := by show (if bs.length - a < n then none else _) = _; rw [if_neg hs]
      rw [h2]
      rw [h1, show tkA bs a 0 n = a + n by unfold tkA; rw [h1, if_pos rfl]] at hr
      exact ⟨hr, (fun p hp => by cases hp; unfold tkL; rw [h1, if_pos rfl]), hlen⟩
  · have h1 : tkE bs a e n ≠ 0 := by
      unfold tkE
      split
      · exact flE_two e
      · exact he
    exact ⟨⟨_, _, h1, hr⟩, (fun p hp => by cases hp), hlen⟩
theorem takeS_any {w : World} {G : Nat} {ad : Option Addr} {c : Nat} {bs : List UInt8} {o : Option Nat} (h : RdS w G ad c bs o) (n : Nat) (hn : n ≤ 65535) (hbl : bs.length ≤ 100000) :
    Calls Tryz.prog 123 #[.pointer (some ⟨G, 0, none⟩), .int .i64 (n : Int)] w fun e' w' => ∃ l, TkRet G l e' w' ∧ l.length ≤ n ∧ RdS w' G ad c bs ((tkO bs o n).map Prod.snd) ∧ (∀ p, tkO bs o n = some p → l = p.1) ∧ Foot [G] [G] w w' := by
  obtain ⟨a, e, h1, h2⟩ := h.any
  refine (take_any h1 n (by omega) hbl).mono ?_
  rintro e' w' ⟨h3, h4, h5⟩
  obtain ⟨h6, h7, h8⟩ := tk_facts n h2 h4
  exact ⟨_, h3, h8, h6, h7, h5⟩
theorem numberS_any {w : World} {G : Nat} {ad : Option Addr} {c : Nat} {bs : List UInt8} {o : Option Nat} (h : RdS w G ad c bs o) (n : Nat) (hn : n ≤ 4) (hbl : bs.length ≤ 100000) :
    Calls Tryz.prog 106 #[.pointer (some ⟨G, 0, none⟩), .int .i64 (n : Int)] w fun e' w' => ∃ v : Nat, e' = .returned (.int .i64 (v : Int)) ∧ v < 256 ^ n ∧ RdS w' G ad c bs ((nuO bs o n).map Prod.snd) ∧ (∀ p, nuO bs o n = some p → v = p.1) ∧ Foot [G] [G] w w' := by
  obtain ⟨a, e, h1, h2⟩ := h.any
  refine (number_any h1 n hn hbl).mono ?_
  rintro e' w' ⟨h3, h4, h5⟩
  obtain ⟨h6, h7, h8⟩ := tk_facts n h2 h4
  refine ⟨_, h3, Nat.lt_of_lt_of_le (valB_lt _) (Nat.pow_le_pow_right (by decide) h8), ?_, fun p hp => ?_, h5⟩
  · unfold nuO
    rw [Option.map_map]
    exact h6
  · unfold nuO at hp
    obtain ⟨q, hq, rfl⟩ := Option.map_eq_some_iff.1 hp
    show _ = valB q.1
    rw [h7 q hq]
def nmV (bs : List UInt8) (a : Nat) (e : Int) : ByteArray := if e = 0 then (if (readB bs (a + 1) a [] none).2.2 = 0 then (readB bs (a + 1) a [] none).1 else ⟨#[]⟩) else ⟨#[]⟩
def nmRd (bs : List UInt8) (a : Nat) (e : Int) : Nat := if e = 0 then (if (readB bs (a + 1) a [] none).2.2 = 0 then (readB bs (a + 1) a [] none).2.1 else a) else a
def nmE (bs : List UInt8) (a : Nat) (e : Int) : Int := if e = 0 then (readB bs (a + 1) a [] none).2.2 else e
set_option maxRecDepth 100000 in
set_option maxHeartbeats 2000000 in
theorem rdName_any {w : World} {G : Nat} {ad : Option Addr} {c : Nat} {bs : List UInt8} {at0 : Nat} {e : Int} (h : RdAt w G ad c bs at0 e) (hbl : bs.length ≤ 100000) :
    Calls Tryz.prog 127 #[.pointer (some ⟨G, 0, none⟩)] w fun e' w' => e' = .returned (.string (nmV bs at0 e)) ∧ RdAt w' G ad c bs (nmRd bs at0 e) (nmE bs at0 e) ∧ Foot [G] [G] w w' := by
  have x2 := h.cells.cell 2 _ rfl
  have HH := Lib.hid h
  by_cases he : e = 0
  · have hz : (e != 0) = false := by rw [he]; rfl
    subst he
    have HG := Lib.hid (read_good (bs := bs) (at0 := at0) h.le)
    have HRD := fun V (hb : Below w.heap.size w V) => Lib.hid (read_any ad c bs at0 V (h.bytes.below hb).1 h.le hbl)
    have HV : Hid (nmV bs at0 0 = (if (readB bs (at0 + 1) at0 [] none).2.2 = 0 then (readB bs (at0 + 1) at0 [] none).1 else ⟨#[]⟩) ∧ nmRd bs at0 0 = (if (readB bs (at0 + 1) at0 [] none).2.2 = 0 then (readB bs (at0 + 1) at0 [] none).2.1 else at0) ∧ nmE bs at0 0 = (readB bs (at0 + 1) at0 [] none).2.2) := Lib.hid ⟨if_pos rfl, if_pos rfl, if_pos rfl⟩
    generalize readB bs (at0 + 1) at0 [] none = R at *
    obtain ⟨nm, nx, er⟩ := R
    simp only at HG HRD HV
    have HRX := Lib.hid (h.below (Below.refl _ _).drew)
    obtain ⟨N, hN⟩ : ∃ N, bs.length = N := ⟨_, rfl⟩
    have HN := Lib.hid hN
    rw [hN] at HRD
    clear h hN
    go_enter Tryz.func127, Tryz.ntmps127
    go_upto_region 3 with fail
    obtain ⟨U, hU⟩ : ∃ U, w.drew = U := ⟨_, rfl⟩
    have HBU : Hid (Below w.heap.size w U) := Lib.hid (by rw [← hU]; exact (Below.refl _ _).drew)
    rw [hU] at HRX
    obtain ⟨L, hL⟩ : ∃ L : List (Nat × Nat × List Value), [(G, 0, [.slice ad N c, .int .i64 (at0 : Int), .int .i64 0])] = L := ⟨_, rfl⟩
    have HK : Hid (HeldR L U U) := Lib.hid (by rw [← hL, ← HN.out]; exact HRX.out.cells.held (HeldR.nil (Below.refl _ _)))
    have C0 : Hid (∀ V, HeldR L U V → V.cell? ⟨G, 0, none⟩ = some (.slice ad N c)) := Lib.hid (fun V hv => by rw [← hL] at hv; have := (hv.get (List.mem_cons_self ..)) 0 _ rfl; exact this)
    have C1 : Hid (∀ V, HeldR L U V → V.cell? ⟨G, 1, none⟩ = some (.int .i64 (at0 : Int))) := Lib.hid (fun V hv => by rw [← hL] at hv; have := (hv.get (List.mem_cons_self ..)) 1 _ rfl; exact this)
    have HCL : ∀ V, HeldR L U V → Hid (Calls Tryz.prog 135 #[.slice ad N c, .int .i64 (at0 : Int)] V fun e w' => e = .returned (.tuple #[.string nm, .int .i64 ((nx : Nat) : Int), .int .i64 er]) ∧ Below V.heap.size V w') := fun V hv => HRD V (chain HBU.out hv.bel)
    clear hL x2
    refine wp_region_noPanic ?_
    refine wp_region_held_drew (S := HeldR L U) (by kernel_rfl) (by rw [hU]; exact HK.out) (fun hHeld => ?_)
    rw [hU]
    clear hU
    refine tkT 0 ?_ rfl (Or.inl ⟨by rfl, ?_⟩) ?_
    rotate_left
    · (intro w hSw; go_simp; try (with_reducible rfl))
    try simp only [Act.put, pZ]
    refine tkT 1 ?_ rfl (Or.inl ⟨by rfl, ?_⟩) ?_
    rotate_left
    · (intro w hSw; go_simp; try (with_reducible rfl))
    try simp only [Act.put, pZ]
    refine tkT 2 ?_ rfl (Or.inl ⟨by rfl, ?_⟩) ?_
    rotate_left
    · (intro w hSw; go_simp; try (with_reducible rfl))
    try simp only [Act.put, pZ]
    refine tkT 3 ?_ rfl (Or.inl ⟨by rfl, ?_⟩) ?_
    rotate_left
    · (intro w hSw; have hc0 := C0.out w hSw; go_simp; try (with_reducible rfl))
    try simp only [Act.put, pZ]
    refine tkT 4 ?_ rfl (Or.inl ⟨by rfl, ?_⟩) ?_
    rotate_left
    · (intro w hSw; go_simp; try (with_reducible rfl))
    try simp only [Act.put, pZ]
    refine tkT 5 ?_ rfl (Or.inl ⟨by rfl, ?_⟩) ?_
    rotate_left
    · (intro w hSw; go_simp; try (with_reducible rfl))
    try simp only [Act.put, pZ]
    refine tkT 6 ?_ rfl (Or.inl ⟨by rfl, ?_⟩) ?_
    rotate_left
    · (intro w hSw; go_simp; try (with_reducible rfl))
    try simp only [Act.put, pZ]
    refine tkT 7 ?_ rfl (Or.inl ⟨by rfl, ?_⟩) ?_
    rotate_left
    · (intro w hSw; have hc0 := C1.out w hSw; go_simp; try (with_reducible rfl))
    try simp only [Act.put, pZ]
    refine wpAnyH_ready (rs := [8]) (by kernel_rfl) (by simp) ?_
    refine AllReadyH.cons rfl (fun K hK => ?_) AllReadyH.nil
    go_simp
    refine (Calls.heldR (HCL _ (by assumption)).out (by assumption)).mono ?_
    rintro e wr8 ⟨rfl, hS8⟩
    go_wp2_with fail
    refine hK.out _ _ hS8 (fun hHeld => ?_)
    clear hK K
    try simp only [Act.put, pZ]
    refine tkT 9 ?_ rfl (Or.inl ⟨by rfl, ?_⟩) ?_
    rotate_left
    · (intro w hSw; go_simp; try (with_reducible rfl))
    try simp only [Act.put, pZ]
    refine tkT 10 ?_ rfl (Or.inl ⟨by rfl, ?_⟩) ?_
    rotate_left
    · (intro w hSw; go_simp; try (with_reducible rfl))
    try simp only [Act.put, pZ]
    refine tkT 11 ?_ rfl (Or.inl ⟨by rfl, ?_⟩) ?_
    rotate_left
    · (intro w hSw; go_simp; try (with_reducible rfl))
    try simp only [Act.put, pZ]
    refine tkT 12 ?_ rfl (Or.inl ⟨by rfl, ?_⟩) ?_
    rotate_left
    · (intro w hSw; go_simp; try (with_reducible rfl))
    try simp only [Act.put, pZ]
    refine tkT 13 ?_ rfl (Or.inl ⟨by rfl, ?_⟩) ?_
    rotate_left
    · (intro w hSw; go_simp; try (with_reducible rfl))
    try simp only [Act.put, pZ]
    refine tkT 14 ?_ rfl (Or.inl ⟨by rfl, ?_⟩) ?_
    rotate_left
    · (intro w hSw; go_simp; try (with_reducible rfl))
    try simp only [Act.put, pZ]
    refine tkT 15 ?_ rfl (Or.inl ⟨by rfl, ?_⟩) ?_
    rotate_left
    · (intro w hSw; go_simp; try (with_reducible rfl))
    try simp only [Act.put, pZ]
    refine wpAnyH_done (by kernel_rfl) ?_ _
    refine NoPanic.normal ?_
    have HR8 := Lib.hid (HRX.out.below hS8.bel)
    have HF8 : Hid (Foot [G] [G] w wr8) := Lib.hid ((Foot.ofBelow [G] HBU.out).trans (Foot.ofBelow [G] hS8.bel))
    clear C0 C1 HCL HK hHeld hS8 HRX HBU
    by_cases her : er = 0
    · have hz2 : (er != 0) = false := by rw [her]; rfl
      have HV2 : Hid (nmV bs at0 0 = nm ∧ nmRd bs at0 0 = nx ∧ nmE bs at0 0 = 0) := Lib.hid ⟨HV.out.1.trans (if_pos her), HV.out.2.1.trans (if_pos her), HV.out.2.2.trans her⟩
      have x1 := HR8.out.cells.cell 1 _ rfl
      have f1 := HR8.out.cells.live 1 (by show 1 < 3; decide)
      have HR9 := Lib.hid (HR8.out.setAt nx (HG.out her).2.2)
      have HF9 := Lib.hid (HF8.out.trans (Foot.ofSet wr8 G 1 (.int .i64 (nx : Int))))
      clear her HV HR8 HF8
      go_wp2_with fail
      go_ret
      rw [HV2.out.1, HV2.out.2.1, HV2.out.2.2]
      exact ⟨rfl, HR9.out, HF9.out⟩
    · have hz2 : (er != 0) = true := by simpa using her
      have HV2 : Hid (nmV bs at0 0 = ⟨#[]⟩ ∧ nmRd bs at0 0 = at0 ∧ nmE bs at0 0 = er) := Lib.hid ⟨HV.out.1.trans (if_neg her), HV.out.2.1.trans (if_neg her), HV.out.2.2⟩
      clear her HV
      go_wp2_with fail
      refine (fail_any HR8.out er).mono ?_
      rintro e' w9 ⟨rfl, h1, h2⟩
      have HR9 := Lib.hid h1
      have HF9 := Lib.hid (HF8.out.trans h2)
      clear h1 h2 HR8 HF8
      go_wp2_with fail
      go_ret
      rw [HV2.out.1, HV2.out.2.1, HV2.out.2.2]
      exact ⟨rfl, HR9.out, HF9.out⟩
  · have hz : (e != 0) = true := by simpa using he
    have HV : Hid (nmV bs at0 e = ⟨#[]⟩ ∧ nmRd bs at0 e = at0 ∧ nmE bs at0 e = e) := Lib.hid ⟨if_neg he, if_neg he, if_neg he⟩
    clear he h
    go_enter Tryz.func127, Tryz.ntmps127
    go_wp2_with fail
    go_ret
    rw [HV.out.1, HV.out.2.1, HV.out.2.2]
    exact ⟨rfl, HH.out, Foot.ofBelow _ (Below.refl _ _)⟩
theorem nameS_any {w : World} {G : Nat} {ad : Option Addr} {c : Nat} {bs : List UInt8} {o : Option Nat} (h : RdS w G ad c bs o) (hbl : bs.length ≤ 100000) :
    Calls Tryz.prog 127 #[.pointer (some ⟨G, 0, none⟩)] w fun e' w' => ∃ s : ByteArray, e' = .returned (.string s) ∧ s.size ≤ 1000 ∧ RdS w' G ad c bs ((naO bs o).map Prod.snd) ∧ (∀ p, naO bs o = some p → s = p.1) ∧ Foot [G] [G] w w' := by
  obtain ⟨a, e, h1, h2⟩ := h.any
  refine (rdName_any h1 hbl).mono ?_
  rintro e' w' ⟨h3, h4, h5⟩
  refine ⟨_, h3, ?_, ?_⟩
  · unfold nmV
    split
    · split
      · exact sizes_read bs a
      · exact Nat.zero_le _
    · exact Nat.zero_le _
  · rcases h2 with ⟨rfl, rfl⟩ | ⟨rfl, he⟩
    · by_cases hr : (readB bs (a + 1) a [] none).2.2 = 0
      · have e1 : naO bs (some a) = some ((readB bs (a + 1) a [] none).1, (readB bs (a + 1) a [] none).2.1) := if_pos hr
        have e2 : nmE bs a 0 = 0 := (if_pos rfl).trans hr
        have e3 : nmRd bs a 0 = (readB bs (a + 1) a [] none).2.1 := (if_pos rfl).trans (if_pos hr)
        rw [e2, e3] at h4
        rw [e1]
        exact ⟨h4, (fun p hp => by cases hp; exact (if_pos rfl).trans (if_pos hr)), h5⟩
      · have e1 : naO bs (some a) = none := if_neg hr
        have e2 : nmE bs a 0 = (readB bs (a + 1) a [] none).2.2 := if_pos rfl
        rw [e1]
        exact ⟨⟨_, _, by rw [e2]; exact hr, h4⟩, (fun p hp => by cases hp), h5⟩
    · have e2 : nmE bs a e = e := if_neg he
      exact ⟨⟨_, _, by rw [e2]; exact he, h4⟩, (fun p hp => by cases hp), h5⟩
end Go.Proofs.YtedmkdjijhflnaaGreat
namespace Go.Proofs.YtedmkdjijhflnaaGreat
open Go.RowKit

theorem failS_any {w : World} {G : Nat} {ad : Option Addr} {c : Nat} {bs : List UInt8} {o : Option Nat} (h : RdS w G ad c bs o) :
    Calls Tryz.prog 110 #[.pointer (some ⟨G, 0, none⟩), .int .i64 2] w fun e' w' => e' = .returned (.tuple #[]) ∧ RdS w' G ad c bs none ∧ Foot [G] [G] w w' := by
  obtain ⟨a, e, h1, h2⟩ := h.any
  refine (fail_any h1 2).mono ?_
  rintro e' w' ⟨h3, h4, h5⟩
  exact ⟨h3, ⟨_, _, flE_two e, h4⟩, h5⟩
def putB (b : List Nat) (l : List UInt8) : List Nat := (l.take 16).map UInt8.toNat ++ b.drop (min l.length 16)
theorem putB_len {b : List Nat} (h : b.length = 16) (l : List UInt8) : (putB b l).length = 16 := by
  unfold putB
  rw [List.length_append, List.length_map, List.length_take, List.length_drop]
  omega
theorem recL_putB (r : Rec) (h16 : r.b.length = 16) (l : List UInt8) : recL { r with b := putB r.b l } = (recL r).take 5 ++ bys (l.take 16) ++ (recL r).drop (5 + (bys (l.take 16)).length) := by
  have hm : (bys (l.take 16)).length = min l.length 16 := by unfold bys; rw [List.length_map, List.length_take]; omega
  rw [hm]
  obtain ⟨nm, ty, cl, ttl, f, b, tg, da⟩ := r
  have e0 : ∀ b : List Nat, recL ⟨nm, ty, cl, ttl, f, b, tg, da⟩ = [Value.string nm, .int .i64 ty, .int .i64 cl, .int .i64 ttl, .int .i64 f] ++ (b.map fun x : Nat => Value.int .u8 (x : Int)) ++ [Value.string tg, .string da] := fun b => rfl
  show recL ⟨nm, ty, cl, ttl, f, putB b l, tg, da⟩ = (recL ⟨nm, ty, cl, ttl, f, b, tg, da⟩).take 5 ++ bys (l.take 16) ++ (recL ⟨nm, ty, cl, ttl, f, b, tg, da⟩).drop (5 + min l.length 16)
  rw [e0, e0]
  have hb : b.length = 16 := h16
  have h1 : ([Value.string nm, .int .i64 ty, .int .i64 cl, .int .i64 ttl, .int .i64 f] ++ (b.map fun x : Nat => Value.int .u8 (x : Int)) ++ [Value.string tg, .string da]).take 5 = [Value.string nm, .int .i64 ty, .int .i64 cl, .int .i64 ttl, .int .i64 f] := by simp
  have h2 : ([Value.string nm, .int .i64 ty, .int .i64 cl, .int .i64 ttl, .int .i64 f] ++ (b.map fun x : Nat => Value.int .u8 (x : Int)) ++ [Value.string tg, .string da]).drop (5 + min l.length 16) = (b.drop (min l.length 16)).map (fun x : Nat => Value.int .u8 (x : Int)) ++ [Value.string tg, .string da] := by
    rw [List.append_assoc, List.drop_append, List.drop_eq_nil_of_le (by simp), List.nil_append, show 5 + min l.length 16 - [Value.string nm, .int .i64 ty, .int .i64 cl, .int .i64 ttl, .int .i64 f].length = min l.length 16 by simp, List.drop_append_of_le_length (by rw [List.length_map]; omega), List.map_drop]
  rw [h1, h2]
  unfold putB bys
  rw [List.map_append, List.map_map]
  simp only [List.append_assoc]
  rfl
theorem RecAt.putB {w : World} {P : Nat} {r : Rec} (h : RecAt w P r) (l : List UInt8) : RecAt (w.setCells P 5 (bys (l.take 16))) P { r with b := putB r.b l } := by
  have hm : (bys (l.take 16)).length ≤ 16 := by unfold bys; rw [List.length_map, List.length_take]; omega
  have hl := recL_len r h.len
  refine ⟨putB_len h.len l, by rw [size_setCells]; exact h.lt, ?_, World.there_setCells h.there P 5 _⟩
  rw [recL_putB r h.len l]
  have r1 : w.rangeAt P 0 ((recL r).take 5) := fun j u hu => h.range j u (by rw [List.getElem?_take] at hu; split at hu <;> simp_all)
  have r2 : w.rangeAt P (5 + (bys (l.take 16)).length) ((recL r).drop (5 + (bys (l.take 16)).length)) := fun j u hu => by
    have := h.range (5 + (bys (l.take 16)).length + j) u (by rw [List.getElem?_drop] at hu; exact hu)
    rwa [Nat.zero_add] at this
  have s1 := World.rangeAt_setCells_apart r1 P 5 (bys (l.take 16)) (.inr (.inl (by rw [List.length_take]; omega)))
  have s2 := World.rangeAt_setCells_apart r2 P 5 (bys (l.take 16)) (.inr (.inr (Nat.le_refl _)))
  have s3 := World.rangeAt_setCells_same w P 5 (bys (l.take 16)) (fun j hj => by have := h.there (5 + j) (by omega); rwa [Nat.zero_add] at this)
  intro j u hu
  rw [Nat.zero_add]
  by_cases h5 : j < 5
  · rw [List.append_assoc, List.getElem?_append_left (by rw [List.length_take]; omega)] at hu
    have := s1 j u hu
    rwa [Nat.zero_add] at this
  · have e5 : ((recL r).take 5).length = 5 := by rw [List.length_take]; omega
    rw [List.append_assoc, List.getElem?_append_right (by omega), e5] at hu
    by_cases hj : j - 5 < (bys (l.take 16)).length
    · rw [List.getElem?_append_left hj] at hu
      have := s3 (j - 5) u hu
      rwa [show 5 + (j - 5) = j by omega] at this
    · rw [List.getElem?_append_right (by omega)] at hu
      have := s2 _ u hu
      rwa [show 5 + (bys (l.take 16)).length + (j - 5 - (bys (l.take 16)).length) = j by omega] at this
theorem wp_copyB (w : World) {o : Oper} {a : Act} {K : Act → World → Prop} {Q : Exit → Act → World → Prop} (d s : Operand)
    (ho : o.op = .call { callee := .builtin .copy, args := #[d, s], argTypes := #[38, 38] }) (v u : Value) (hd : a.eval d = v) (hs : a.eval s = u) {v' : Value} {w' : World}
    (hr : (Builtin.copy_ #[38, 38] o.type #[v, u]).run Tryz.prog w = .ok v' w') (h : K (a.put o.dst v') w') : o.wp Tryz.prog a w K Q := by
  unfold Oper.wp execOp
  simp only [ho, resolve, invoke, builtin, Sem.run_bind, Sem.run_pure, Result.andThen_ok, List.map_toArray, List.map_cons, List.map_nil, hd, hs, hr]
  exact h
theorem copy_addr {w : World} {P : Nat} {r : Rec} (h : RecAt w P r) {a' : Option Addr} {c' : Nat} {l : List UInt8} (hb : BytesIn2 w a' c' l) (ty : TypeId) :
    (Builtin.copy_ #[38, 38] ty #[.slice (some ⟨P, 5, none⟩) 16 16, .slice a' l.length c']).run Tryz.prog w = .ok (goInt (bys (l.take 16)).length) (w.setCells P 5 (bys (l.take 16))) := by
  obtain ⟨i0, hi0, hz0, hz1, hz2⟩ := info_parts Tryz.infoByte
  have hsz : (Tryz.prog.info? 5).map (·.size) = some 1 := by rw [hi0]; exact congrArg some hz1
  have hm : (bys (l.take 16)).length = Nat.min l.length 16 := by unfold bys; rw [List.length_map, List.length_take, Nat.min_comm]
  by_cases h0 : l.length = 0
  · obtain rfl : l = [] := List.eq_nil_of_length_eq_zero h0
    exact run_copy_none w _ _ ty 5 _ _ _ _ _ _ Tryz.underlying38 hsz rfl
  · rcases hb.1.2.2 with e | ⟨x, e, hc⟩
    · exact absurd e h0
    · subst e
      refine run_copy_cells w _ _ ty 5 P 5 _ _ x _ _ (bys (l.take 16)) Tryz.underlying38 hsz hm (fun j v hv => ?_) (fun j hj => ?_) (fun j hj => ?_) (fun v hv => ?_)
      · unfold bys at hv
        rw [List.getElem?_map] at hv
        obtain ⟨y, hy, rfl⟩ := Option.map_eq_some_iff.1 hv
        obtain ⟨hj, rfl⟩ := List.getElem?_eq_some_iff.1 hy
        rw [List.length_take] at hj
        rw [hc j (by omega), List.getElem_take]
      · have := h.there (5 + j) (by rw [hm] at hj; have : Nat.min l.length 16 ≤ 16 := Nat.min_le_right _ _; omega)
        rw [Nat.zero_add] at this
        exact this.1
      · have := h.there (5 + j) (by rw [hm] at hj; have : Nat.min l.length 16 ≤ 16 := Nat.min_le_right _ _; omega)
        rw [Nat.zero_add] at this
        exact this.2
      · obtain ⟨y, _, rfl⟩ := List.mem_map.1 hv
        rfl
theorem RecAt.keepB {w w' : World} {P : Nat} {r : Rec} (h : RecAt w P r) {F F' : List Nat} (hf : Foot F F' w w') (hP : P ∉ F) : RecAt w' P r := by
  have hk := hf.keep P h.lt hP
  exact ⟨h.len, Nat.lt_of_lt_of_le h.lt hf.size, fun j u hu => (World.cell?_of_block (w := w) (a := ⟨P, 0 + j, none⟩) hk).trans (h.range j u hu), fun j hj => by
    rw [World.cell?_of_block (w := w) (a := ⟨P, 0 + j, none⟩) hk, World.frozen?_of_block (w := w) (a := ⟨P, 0 + j, none⟩) hk]; exact h.there j hj⟩
end Go.Proofs.YtedmkdjijhflnaaGreat
namespace Go.Proofs.YtedmkdjijhflnaaGreat
open Go.RowKit

def DataRet (w : World) (G P : Nat) (ad : Option Addr) (c : Nat) (bs : List UInt8) (q : Option (Rec × Nat)) (e' : Ending) (w' : World) : Prop :=
  e' = .returned (.tuple #[]) ∧ ∃ r', RecAt w' P r' ∧ RdS w' G ad c bs (q.map Prod.snd) ∧ (∀ p, q = some p → r' = p.1) ∧ Foot [G, P] [G, P] w w'
def BoxAt (w : World) (K : Nat) (v : Value) : Prop := w.cell? ⟨K, 0, none⟩ = some v ∧ K < w.heap.size
theorem BoxAt.keep {w w' : World} {K : Nat} {v : Value} (h : BoxAt w K v) {F F' : List Nat} (hf : Foot F F' w w') (hK : K ∉ F) : BoxAt w' K v :=
  ⟨(World.cell?_of_block (w := w) (a := ⟨K, 0, none⟩) (hf.keep K h.2 hK)).trans h.1, Nat.lt_of_lt_of_le h.2 hf.size⟩
theorem BoxAt.below {w w' : World} {K : Nat} {v : Value} (h : BoxAt w K v) (hb : Below w.heap.size w w') : BoxAt w' K v := h.keep (Foot.ofBelow [] hb) (by simp)
theorem Foot.two {G P : Nat} {w w' : World} (h : Foot [G] [G] w w') : Foot [G, P] [G, P] w w' :=
  ⟨h.os, h.tape, h.output, h.size, fun k hk hn => h.keep k hk (fun e => hn (by rw [List.mem_singleton.1 e]; simp)), fun k hk => .inl hk⟩
theorem Foot.twoP {G P : Nat} {w w' : World} (h : Foot [P] [P] w w') : Foot [G, P] [G, P] w w' :=
  ⟨h.os, h.tape, h.output, h.size, fun k hk hn => h.keep k hk (fun e => hn (by rw [List.mem_singleton.1 e]; simp)), fun k hk => .inl hk⟩
theorem Foot.ofCells (w : World) (P o : Nat) (vs : List Value) : Foot [P] [P] w (w.setCells P o vs) := by
  have hb : Below 0 w (w.setCells P o vs) := below_cells (Nat.zero_le _) _ _ _ (Below.refl _ _)
  exact ⟨hb.os, hb.tape, hb.output, by rw [size_setCells]; exact Nat.le_refl _, fun k hk hn => setCells_block _ _ _ _ _ (fun e => hn (by rw [e]; exact List.mem_singleton.2 rfl)), fun k hk => .inl hk⟩
def otO (bs : List UInt8) (o : Option Nat) (r : Rec) (n : Nat) : Option (Rec × Nat) := (tkO bs o n).map fun p => ({ r with da := ⟨p.1.toArray⟩ }, p.2)
def adO (bs : List UInt8) (o : Option Nat) (r : Rec) (n by0 : Nat) (fam : Int) : Option (Rec × Nat) := (tkO bs (if n = by0 then o else none) n).map fun p => ({ r with f := fam, b := putB r.b p.1 }, p.2)
def cnO (bs : List UInt8) (o : Option Nat) (r : Rec) (n : Nat) : Option (Rec × Nat) := o.bind fun a => (naO bs o).bind fun p => if p.2 = a + n then some ({ r with tg := p.1 }, p.2) else none
theorem conv_in {w : World} {a : Option Addr} {c : Nat} {l : List UInt8} (h : BytesIn2 w a c l) : (convert 38 9 (.slice a l.length c)).run Tryz.prog w = .ok (.string ⟨l.toArray⟩) w := by
  by_cases h0 : l.length = 0
  · obtain rfl : l = [] := List.eq_nil_of_length_eq_zero h0
    cases a with
    | none =>
      rw [h.2 rfl, List.length_nil, run_convert_bytes_string w 38 9 5 none 0 0 Tryz.underlying38 Tryz.underlying5 Tryz.underlying9]
      simp [Conv.bytesToString]
      rfl
    | some x => exact run_convert_bytes_back (P := Tryz.prog) w 38 9 5 x c [] Tryz.underlying38 Tryz.underlying5 Tryz.underlying9 (fun j hj => by simp at hj)
  · rcases h.1.2.2 with e | ⟨x, rfl, hc⟩
    · exact absurd e h0
    · exact run_convert_bytes_back (P := Tryz.prog) w 38 9 5 x c l Tryz.underlying38 Tryz.underlying5 Tryz.underlying9 (fun j hj => hc j hj)
set_option maxRecDepth 100000 in
set_option maxHeartbeats 2000000 in
theorem others_any {w : World} {G P : Nat} {ad : Option Addr} {c : Nat} {bs : List UInt8} {o : Option Nat} {r : Rec} (h : RdS w G ad c bs o) (hr : RecAt w P r) (hGP : G ≠ P) (hP : ∀ x, ad = some x → bs.length ≠ 0 → x.block < w.heap.size ∧ x.block ∉ [P]) (n : Nat) (hn : n ≤ 65535) (hbl : bs.length ≤ 100000) :
    Calls Tryz.prog 128 #[.pointer (some ⟨G, 0, none⟩), .pointer (some ⟨P, 0, none⟩), .int .i64 (n : Int)] w (DataRet w G P ad c bs (otO bs o r n)) := by
  have HT := Lib.hid (takeS_any h n hn hbl)
  have HRA := Lib.hid hr
  have HPO := Lib.hid hP
  clear h hr hP
  go_enter Tryz.func128, Tryz.ntmps128
  go_wp2_with fail
  refine HT.out.mono ?_
  rintro e' w1 ⟨l, ⟨a', c', rfl, hb, hoff⟩, hln, hs, hp, hf⟩
  have HCV := conv_in hb
  have HR1 := Lib.hid (HRA.out.keepB hf (by simp only [List.mem_singleton]; omega))
  have HS1 := Lib.hid hs
  have HP1 := Lib.hid hp
  have HF1 := Lib.hid hf
  have hl2 : (⟨l.toArray⟩ : ByteArray).size ≤ 65535 := by show l.toArray.size ≤ 65535; rw [List.size_toArray]; omega
  have x22 : ∃ u, w1.cell? ⟨P, 22, none⟩ = some u := by
    obtain ⟨u, hu⟩ : ∃ u, (recL r)[22]? = some u := ⟨_, List.getElem?_eq_getElem (by rw [recL_len r HR1.out.len]; decide)⟩
    exact ⟨u, HR1.out.cell 22 u hu⟩
  obtain ⟨u22, x22⟩ := x22
  have f22 := HR1.out.live 22 (by decide)
  have HR2 := Lib.hid (HR1.out.set 22 (.string ⟨l.toArray⟩) { r with da := ⟨l.toArray⟩ } HR1.out.len (by decide) (recL_da r HR1.out.len _))
  have HF2 := Lib.hid (Foot.trans (Foot.two (P := P) HF1.out) (Foot.twoP (G := G) (Foot.ofSet w1 P 22 (.string ⟨l.toArray⟩))))
  have HS2 := Lib.hid (HS1.out.keep (Foot.ofSet w1 P 22 (.string ⟨l.toArray⟩)) (by simp only [List.mem_singleton]; omega) (fun x hx hz => ⟨Nat.lt_of_lt_of_le (HPO.out x hx hz).1 HF1.out.size, (HPO.out x hx hz).2⟩))
  have HQ : Hid (∀ p, otO bs o r n = some p → { r with da := ⟨l.toArray⟩ } = p.1) := Lib.hid (fun p hp => by
    unfold otO at hp
    obtain ⟨q, hq, rfl⟩ := Option.map_eq_some_iff.1 hp
    show _ = { r with da := ⟨q.1.toArray⟩ }
    rw [HP1.out q hq])
  have HQ2 : Hid ((otO bs o r n).map Prod.snd = (tkO bs o n).map Prod.snd) := Lib.hid (by unfold otO; rw [Option.map_map]; rfl)
  generalize (⟨l.toArray⟩ : ByteArray) = s at *
  clear hb hoff hs hp hf HT HP1
  go_wp2_with fail
  go_end0
  refine ⟨rfl, _, HR2.out, ?_, HQ.out, HF2.out⟩
  rw [HQ2.out]
  exact HS2.out
set_option maxRecDepth 100000 in
set_option maxHeartbeats 4000000 in
theorem address_any {w : World} {G P : Nat} {ad : Option Addr} {c : Nat} {bs : List UInt8} {o : Option Nat} {r : Rec} (h : RdS w G ad c bs o) (hr : RecAt w P r) (hGP : G ≠ P) (hP : ∀ x, ad = some x → bs.length ≠ 0 → x.block < w.heap.size ∧ x.block ∉ [P]) (n : Nat) (hn : n ≤ 65535) (hbl : bs.length ≤ 100000)
    (by0 : Nat) (fam : Int) (Bb Rb Fb : Nat) (hb : BoxAt w Bb (.int .i64 (by0 : Int))) (hR : BoxAt w Rb (.pointer (some ⟨G, 0, none⟩))) (hF : BoxAt w Fb (.int .i64 fam)) (nb : Bb ≠ G ∧ Bb ≠ P) (nr : Rb ≠ G ∧ Rb ≠ P) (nf : Fb ≠ G ∧ Fb ≠ P) :
    Calls Tryz.prog 125 #[.pointer (some ⟨P, 0, none⟩), .int .i64 (n : Int), .pointer (some ⟨Bb, 0, none⟩), .pointer (some ⟨Rb, 0, none⟩), .pointer (some ⟨Fb, 0, none⟩)] w (DataRet w G P ad c bs (adO bs o r n by0 fam)) := by
  obtain ⟨o2, ho2⟩ : ∃ o2, (if n = by0 then o else none) = o2 := ⟨_, rfl⟩
  have HO2 : Hid ((n = by0 → o2 = o) ∧ (n ≠ by0 → o2 = none)) := Lib.hid ⟨fun e => by rw [← ho2, if_pos e], fun e => by rw [← ho2, if_neg e]⟩
  have HQ : Hid (adO bs o r n by0 fam = (tkO bs o2 n).map fun p => ({ r with f := fam, b := putB r.b p.1 }, p.2)) := Lib.hid (by unfold adO; rw [ho2])
  have xb := hb.1
  have xr := hR.1
  have HH := Lib.hid h
  have HRA := Lib.hid hr
  have HPO := Lib.hid hP
  have HRB := Lib.hid hR
  have HFB := Lib.hid hF
  have HNE : Hid ((Rb ≠ G ∧ Rb ≠ P) ∧ (Fb ≠ G ∧ Fb ≠ P)) := Lib.hid ⟨nr, nf⟩
  clear h hr hP hb hR hF ho2 nb nr nf
  go_enter Tryz.func125, Tryz.ntmps125
  go_upto_if 9 with fail
  go_cut [] from 5 (fun wx => Hid (RdS wx G ad c bs o2) ∧ Hid (Foot [G] [G] w wx))
  case first =>
    by_cases he : n = by0
    · have hd : ((n : Int) != (by0 : Int)) = false := by rw [he]; simp
      have HS2 : Hid (RdS w G ad c bs o2) := Lib.hid (by rw [HO2.out.1 he]; exact HH.out)
      clear he
      go_wp2_with fail
      go_meet
      case rel => exact ⟨HS2, Lib.hid (Foot.ofBelow _ (Below.refl _ _))⟩
    · have hd : ((n : Int) != (by0 : Int)) = true := by simp; omega
      have hz := HO2.out.2 he
      clear he
      go_wp2_with fail
      refine (failS_any HH.out).mono ?_
      rintro e' w1 ⟨rfl, h1, h2⟩
      have HS2 : Hid (RdS w1 G ad c bs o2) := Lib.hid (by rw [hz]; exact h1)
      have HF2 := Lib.hid h2
      clear h1 h2 hz
      go_wp2_with fail
      go_meet
      case rel => exact ⟨HS2, HF2⟩
  case rest =>
    clear xb xr
    obtain ⟨HS, HF⟩ := hcut
    have HRW := Lib.hid (HRA.out.keepB HF.out (by simp only [List.mem_singleton]; omega))
    have HFW := Lib.hid (HFB.out.keep HF.out (by simp only [List.mem_singleton]; exact HNE.out.2.1))
    have HRX := Lib.hid (HRB.out.keep HF.out (by simp only [List.mem_singleton]; exact HNE.out.1.1))
    have xf := HFW.out.1
    obtain ⟨u4, hu4⟩ : ∃ u, wc.cell? ⟨P, 4, none⟩ = some u := ⟨_, HRW.out.cell 4 _ rfl⟩
    have f4 := HRW.out.live 4 (by decide)
    have HR2 := Lib.hid (HRW.out.set 4 (.int .i64 fam) { r with f := fam } HRW.out.len (by decide) (recL_fam r fam))
    have HF2 := Lib.hid (Foot.trans (Foot.two (P := P) HF.out) (Foot.twoP (G := G) (Foot.ofSet wc P 4 (.int .i64 fam))))
    have HS2 := Lib.hid (HS.out.keep (Foot.ofSet wc P 4 (.int .i64 fam)) (by simp only [List.mem_singleton]; omega) (fun x hx hz => ⟨Nat.lt_of_lt_of_le (HPO.out x hx hz).1 HF.out.size, (HPO.out x hx hz).2⟩))
    have HRX2 := Lib.hid (HRX.out.keep (Foot.ofSet wc P 4 (.int .i64 fam)) (by simp only [List.mem_singleton]; exact HNE.out.1.2))
    clear HS HF HRW HFW HRX HRA HRB HFB HH
    go_upto_region 3 with fail
    obtain ⟨V, hV⟩ : ∃ V, wc.setCell ⟨P, 4, none⟩ (.int .i64 fam) = V := ⟨_, rfl⟩
    rw [hV] at HR2 HF2 HS2 HRX2 ⊢
    clear hV hu4 f4 xf
    have hdr := (Below.refl V.heap.size V).drew
    replace HR2 := Lib.hid (HR2.out.below hdr)
    replace HS2 := Lib.hid (HS2.out.below hdr)
    replace HRX2 := Lib.hid (HRX2.out.below hdr)
    replace HF2 := Lib.hid (HF2.out.trans (Foot.ofBelow [G, P] hdr))
    clear hdr
    have CSL : Hid (∀ W : World, BoxAt W Rb (.pointer (some ⟨G, 0, none⟩)) → (Instr.sliceAt 67 (.pointer (some ⟨P, 5, none⟩)) none none none).run Tryz.prog W = .ok (.slice (some ⟨P, 5, none⟩) 16 16) W) := Lib.hid (fun W _ => by kernel_rfl)
    have CR : Hid (∀ W : World, BoxAt W Rb (.pointer (some ⟨G, 0, none⟩)) → W.cell? ⟨Rb, 0, none⟩ = some (.pointer (some ⟨G, 0, none⟩))) := Lib.hid (fun W h => h.1)
    refine wp_region_noPanic ?_
    refine wp_region_held_drew (S := fun W => BoxAt W Rb (.pointer (some ⟨G, 0, none⟩))) (by kernel_rfl) HRX2.out (fun hHeld => ?_)
    obtain ⟨U, hU⟩ : ∃ U, V.drew = U := ⟨_, rfl⟩
    rw [hU] at HR2 HF2 HS2 HRX2 hHeld ⊢
    clear hU
    refine tkT 0 ?_ rfl (Or.inl ⟨by rfl, ?_⟩) ?_
    rotate_left
    · (intro w hSw; go_simp; try (with_reducible rfl))
    try simp only [Act.put, pZ]
    refine tkT 1 ?_ rfl (Or.inl ⟨by rfl, ?_⟩) ?_
    rotate_left
    · (intro w hSw; go_simp; try (with_reducible rfl))
    try simp only [Act.put, pZ]
    refine tkT 2 ?_ rfl (Or.inl ⟨by rfl, ?_⟩) ?_
    rotate_left
    · (intro w hSw; go_simp; try (with_reducible rfl))
    try simp only [Act.put, pZ]
    refine tkT 3 ?_ rfl (Or.inl ⟨by rfl, ?_⟩) ?_
    rotate_left
    · (intro w hSw; go_simp; try (with_reducible rfl))
    try simp only [Act.put, pZ]
    refine tkT 4 ?_ rfl (Or.inl ⟨by rfl, ?_⟩) ?_
    rotate_left
    · (intro w hSw; have hc0 := CSL.out w hSw; go_simp; try (with_reducible rfl))
    try simp only [Act.put, pZ]
    refine tkT 5 ?_ rfl (Or.inl ⟨by rfl, ?_⟩) ?_
    rotate_left
    · (intro w hSw; have hc0 := CR.out w hSw; go_simp; try (with_reducible rfl))
    try simp only [Act.put, pZ]
    refine tkT 6 ?_ rfl (Or.inl ⟨by rfl, ?_⟩) ?_
    rotate_left
    · (intro w hSw; go_simp; try (with_reducible rfl))
    try simp only [Act.put, pZ]
    refine wpAnyH_ready (rs := [7]) (by kernel_rfl) (by simp) ?_
    refine AllReadyH.cons rfl (fun K hK => ?_) AllReadyH.nil
    go_simp
    refine (takeS_any HS2.out n hn hbl).mono ?_
    rintro e w7 ⟨l, ⟨a', c', rfl, hb, hoff⟩, hln, hs, hp, hf⟩
    have HR7 := Lib.hid (HR2.out.keepB hf (by simp only [List.mem_singleton]; omega))
    have HX7 := Lib.hid (HRX2.out.keep hf (by simp only [List.mem_singleton]; exact HNE.out.1.1))
    have HS7 := Lib.hid hs
    have HB7 := Lib.hid hb
    have HP7 := Lib.hid hp
    have HZ7 : Hid (U.heap.size ≤ w7.heap.size) := Lib.hid hf.size
    have HZU : Hid (w.heap.size ≤ U.heap.size) := Lib.hid HF2.out.size
    replace HF2 := Lib.hid (HF2.out.trans (Foot.two (P := P) hf))
    clear hb hoff hs hp hf HS2 HR2 HRX2
    go_wp2_with fail
    refine hK.out _ _ HX7.out (fun hHeld7 => ?_)
    clear hK K
    try simp only [Act.put, pZ]
    have HR8 := Lib.hid (HR7.out.putB l)
    have HX8 := Lib.hid (HX7.out.keep (Foot.ofCells w7 P 5 (bys (l.take 16))) (by simp only [List.mem_singleton]; exact HNE.out.1.2))
    have HS8 := Lib.hid (HS7.out.keep (Foot.ofCells w7 P 5 (bys (l.take 16))) (by simp only [List.mem_singleton]; omega) (fun x hx hz => ⟨by have h1 := (HPO.out x hx hz).1; have h2 := HZ7.out; have h3 := HZU.out; omega, (HPO.out x hx hz).2⟩))
    have HF8 := Lib.hid (HF2.out.trans (Foot.twoP (G := G) (Foot.ofCells w7 P 5 (bys (l.take 16)))))
    refine wpAnyH_ready (rs := [8]) (by kernel_rfl) (by simp) ?_
    refine ready_one rfl rfl (fun K hK => ?_)
    refine wp_copyB _ _ _ rfl _ _ rfl rfl (copy_addr HR7.out HB7.out _) ?_
    refine hK.out _ _ HX8.out (fun hHeld8 => ?_)
    clear hK K
    try simp only [Act.put, List.getElem_toArray, List.getElem_cons_zero, List.getElem_cons_succ]
    refine wpAnyH_done (by kernel_rfl) ?_ _
    refine NoPanic.normal ?_
    go_wp2_with fail
    go_end0
    refine ⟨rfl, _, HR8.out, ?_, fun p hp => ?_, HF8.out⟩
    · rw [HQ.out, Option.map_map]
      exact HS8.out
    · rw [HQ.out] at hp
      obtain ⟨q, hq, rfl⟩ := Option.map_eq_some_iff.1 hp
      show _ = { r with f := fam, b := putB r.b q.1 }
      rw [HP7.out q hq]
set_option maxRecDepth 100000 in
set_option maxHeartbeats 4000000 in
theorem cname_any {w : World} {G P : Nat} {ad : Option Addr} {c : Nat} {bs : List UInt8} {o : Option Nat} {r : Rec} (h : RdS w G ad c bs o) (hr : RecAt w P r) (hGP : G ≠ P) (hP : ∀ x, ad = some x → bs.length ≠ 0 → x.block < w.heap.size ∧ x.block ∉ [P]) (n : Nat) (hn : n ≤ 65535) (hbl : bs.length ≤ 100000)
    (Rb : Nat) (hR : BoxAt w Rb (.pointer (some ⟨G, 0, none⟩))) (nr : Rb ≠ G ∧ Rb ≠ P) :
    Calls Tryz.prog 126 #[.pointer (some ⟨P, 0, none⟩), .int .i64 (n : Int), .pointer (some ⟨Rb, 0, none⟩)] w (DataRet w G P ad c bs (cnO bs o r n)) := by
  have HN := Lib.hid (nameS_any h hbl)
  obtain ⟨a, e, ha, ho⟩ := h.any
  have hale : a ≤ 100000 := Nat.le_trans ha.le hbl
  have HO := Lib.hid ho
  have x1 := ha.cells.cell 1 _ rfl
  have xr := hR.1
  have HRA := Lib.hid hr
  have HPO := Lib.hid hP
  have HRB := Lib.hid hR
  have hw : IntKind.i64.wrap ((a : Int) + (n : Int)) = ((a + n : Nat) : Int) := by rw [IntKind.wrap_i64]; omega
  clear h hr hP hR ha ho
  go_enter Tryz.func126, Tryz.ntmps126
  go_wp2_with fail
  refine HN.out.mono ?_
  rintro e' w1 ⟨s, rfl, hs, hst, hp, hf⟩
  have HF1 := Lib.hid hf
  have HP1 := Lib.hid hp
  have HR1 := Lib.hid (HRA.out.keepB hf (by simp only [List.mem_singleton]; omega))
  have HX1 := Lib.hid (HRB.out.keep hf (by simp only [List.mem_singleton]; exact nr.1))
  have x21 : ∃ u, w1.cell? ⟨P, 21, none⟩ = some u := by
    obtain ⟨u, hu⟩ : ∃ u, (recL r)[21]? = some u := ⟨_, List.getElem?_eq_getElem (by rw [recL_len r HR1.out.len]; decide)⟩
    exact ⟨u, HR1.out.cell 21 u hu⟩
  obtain ⟨u21, x21⟩ := x21
  have f21 := HR1.out.live 21 (by decide)
  have HR2 := Lib.hid (HR1.out.set 21 (.string s) { r with tg := s } HR1.out.len (by decide) (recL_tg r HR1.out.len _))
  have HF2 := Lib.hid (Foot.trans (Foot.two (P := P) HF1.out) (Foot.twoP (G := G) (Foot.ofSet w1 P 21 (.string s))))
  have HS2 := Lib.hid (RdS.keep hst (Foot.ofSet w1 P 21 (.string s)) (by simp only [List.mem_singleton]; omega) (fun x hx hz => ⟨Nat.lt_of_lt_of_le (HPO.out x hx hz).1 hf.size, (HPO.out x hx hz).2⟩))
  have HX2 := Lib.hid (HX1.out.keep (Foot.ofSet w1 P 21 (.string s)) (by simp only [List.mem_singleton]; exact nr.2))
  clear hst hp hf HF1 HR1 HX1 HN HRA HRB x1 xr
  go_upto_region 2 with fail
  obtain ⟨V, hV⟩ : ∃ V, w1.setCell ⟨P, 21, none⟩ (.string s) = V := ⟨_, rfl⟩
  rw [hV] at HR2 HF2 HS2 HX2 ⊢
  clear hV x21 f21
  obtain ⟨a2, e2, ha2, ho2⟩ := HS2.out.any
  have HO2 := Lib.hid ho2
  have x1 := ha2.cells.cell 1 _ rfl
  have xr := HX2.out.1
  clear ha2 ho2
  by_cases hq : a2 = a + n
  · have hd : ((a2 : Int) != ((a + n : Nat) : Int)) = false := by rw [hq]; simp
    have HQ : Hid ((cnO bs o r n).map Prod.snd = (naO bs o).map Prod.snd ∧ ∀ p, cnO bs o r n = some p → { r with tg := s } = p.1) := Lib.hid (by
      unfold cnO
      rcases HO.out with ⟨rfl, _⟩ | ⟨rfl, _⟩
      · cases hna : naO bs (some a) with
        | none => exact ⟨rfl, fun p hp => by cases hp⟩
        | some p =>
          have h2 : p.2 = a + n := by
            rcases HO2.out with ⟨h3, _⟩ | ⟨h3, _⟩
            · rw [hna] at h3
              injection h3 with h3
              omega
            · rw [hna] at h3; cases h3
          have h5 := HP1.out p hna
          simp only [Option.bind_some, if_pos h2]
          exact ⟨rfl, fun q hq => by cases hq; rw [h5]⟩
      · exact ⟨rfl, fun p hp => by cases hp⟩)
    clear hq
    go_wp2_with fail
    go_end0
    exact ⟨rfl, _, HR2.out, by rw [HQ.out.1]; exact HS2.out, HQ.out.2, HF2.out⟩
  · have hd : ((a2 : Int) != ((a + n : Nat) : Int)) = true := by simp; omega
    have HQ : Hid (cnO bs o r n = none) := Lib.hid (by
      unfold cnO
      rcases HO.out with ⟨rfl, _⟩ | ⟨rfl, _⟩
      · cases hna : naO bs (some a) with
        | none => rfl
        | some p =>
          have h2 : p.2 ≠ a + n := by
            rcases HO2.out with ⟨h3, _⟩ | ⟨h3, _⟩
            · rw [hna] at h3
              injection h3 with h3
              omega
            · rw [hna] at h3; cases h3
          simp only [Option.bind_some, if_neg h2]
      · rfl)
    clear hq
    go_wp2_with fail
    refine (failS_any HS2.out).mono ?_
    rintro e' w3 ⟨rfl, h3, h4⟩
    have HS3 := Lib.hid h3
    have HF3 := Lib.hid (HF2.out.trans (Foot.two (P := P) h4))
    have HR3 := Lib.hid (HR2.out.keepB h4 (by simp only [List.mem_singleton]; omega))
    clear h3 h4
    go_wp2_with fail
    go_end0
    exact ⟨rfl, _, HR3.out, by rw [HQ.out]; exact HS3.out, (fun p hp => by rw [HQ.out] at hp; cases hp), HF3.out⟩
end Go.Proofs.YtedmkdjijhflnaaGreat
namespace Go.Proofs.YtedmkdjijhflnaaGreat
open Go.RowKit

def daO (bs : List UInt8) (o : Option Nat) (r : Rec) (n : Nat) : Option (Rec × Nat) := if r.ty = 1 then adO bs o r n 4 4 else if r.ty = 28 then adO bs o r n 16 6 else if r.ty = 5 then cnO bs o r n else otO bs o r n
theorem daO_none (bs : List UInt8) (r : Rec) (n : Nat) : daO bs none r n = none := by
  unfold daO
  split
  · unfold adO; split <;> rfl
  · split
    · unfold adO; split <;> rfl
    · split <;> rfl
def quO (bs : List UInt8) (o : Option Nat) : Option (Qu × Nat) := (naO bs o).bind fun p1 => (nuO bs (some p1.2) 2).bind fun p2 => (nuO bs (some p2.2) 2).map fun p3 => (⟨p1.1, (p2.1 : Int), (p3.1 : Int)⟩, p3.2)
def ttlO (n : Nat) : Nat := if 2147483647 < n then 0 else n
def hdO (nm : ByteArray) (a b c : Nat) : Rec := ⟨nm, (a : Int), (b : Int), ((ttlO c : Nat) : Int), 0, List.replicate 16 0, ⟨#[]⟩, ⟨#[]⟩⟩
def reO (bs : List UInt8) (o : Option Nat) : Option (Rec × Nat) := (naO bs o).bind fun p1 => (nuO bs (some p1.2) 2).bind fun p2 => (nuO bs (some p2.2) 2).bind fun p3 => (nuO bs (some p3.2) 4).bind fun p4 => (nuO bs (some p4.2) 2).bind fun p5 => daO bs (some p5.2) (hdO p1.1 p2.1 p3.1 p4.1) p5.1
def sqO {α : Type} (f : Option Nat → Option (α × Nat)) : Nat → Option Nat → Option (List α × Nat)
  | 0, o => o.map fun a => ([], a)
  | k + 1, o => (f o).bind fun p => (sqO f k (some p.2)).map fun t => (p.1 :: t.1, t.2)
theorem qu_chain {bs : List UInt8} {o : Option Nat} {nm : ByteArray} {ty cl : Nat} (h1 : ∀ p, naO bs o = some p → nm = p.1) (h2 : ∀ p, nuO bs ((naO bs o).map Prod.snd) 2 = some p → ty = p.1) (h3 : ∀ p, nuO bs ((nuO bs ((naO bs o).map Prod.snd) 2).map Prod.snd) 2 = some p → cl = p.1) :
    (quO bs o).map Prod.snd = (nuO bs ((nuO bs ((naO bs o).map Prod.snd) 2).map Prod.snd) 2).map Prod.snd ∧ ∀ p, quO bs o = some p → (⟨nm, (ty : Int), (cl : Int)⟩ : Qu) = p.1 := by
  unfold quO
  cases hn : naO bs o with
  | none => exact ⟨rfl, fun p hp => by cases hp⟩
  | some p1 =>
    rw [hn] at h2 h3
    simp only [Option.map_some, Option.bind_some] at h2 h3 ⊢
    cases hn2 : nuO bs (some p1.2) 2 with
    | none => exact ⟨rfl, fun p hp => by cases hp⟩
    | some p2 =>
      rw [hn2] at h3
      simp only [Option.map_some, Option.bind_some] at h3 ⊢
      cases hn3 : nuO bs (some p2.2) 2 with
      | none => exact ⟨rfl, fun p hp => by cases hp⟩
      | some p3 =>
        refine ⟨rfl, fun p hp => ?_⟩
        cases hp
        rw [h1 p1 hn, h2 p2 hn2, h3 p3 hn3]
theorem re_chain {bs : List UInt8} {o o1 o2 o3 o4 o5 : Option Nat} {nm : ByteArray} {ty cl tl n : Nat} (e1 : o1 = (naO bs o).map Prod.snd) (e2 : o2 = (nuO bs o1 2).map Prod.snd) (e3 : o3 = (nuO bs o2 2).map Prod.snd) (e4 : o4 = (nuO bs o3 4).map Prod.snd) (e5 : o5 = (nuO bs o4 2).map Prod.snd)
    (h1 : ∀ p, naO bs o = some p → nm = p.1) (h2 : ∀ p, nuO bs o1 2 = some p → ty = p.1) (h3 : ∀ p, nuO bs o2 2 = some p → cl = p.1) (h4 : ∀ p, nuO bs o3 4 = some p → tl = p.1) (h5 : ∀ p, nuO bs o4 2 = some p → n = p.1) :
    daO bs o5 (hdO nm ty cl tl) n = reO bs o := by
  unfold reO
  cases hn : naO bs o with
  | none =>
    rw [hn] at e1
    subst e1 e2 e3 e4 e5
    exact daO_none _ _ _
  | some p1 =>
    rw [hn] at e1
    subst e1
    simp only [Option.map_some, Option.bind_some] at h2 e2 ⊢
    cases hn2 : nuO bs (some p1.2) 2 with
    | none =>
      rw [hn2] at e2
      subst e2 e3 e4 e5
      exact daO_none _ _ _
    | some p2 =>
      rw [hn2] at e2
      subst e2
      simp only [Option.map_some, Option.bind_some] at h3 e3 ⊢
      cases hn3 : nuO bs (some p2.2) 2 with
      | none =>
        rw [hn3] at e3
        subst e3 e4 e5
        exact daO_none _ _ _
      | some p3 =>
        rw [hn3] at e3
        subst e3
        simp only [Option.map_some, Option.bind_some] at h4 e4 ⊢
        cases hn4 : nuO bs (some p3.2) 4 with
        | none =>
          rw [hn4] at e4
          subst e4 e5
          exact daO_none _ _ _
        | some p4 =>
          rw [hn4] at e4
          subst e4
          simp only [Option.map_some, Option.bind_some] at h5 e5 ⊢
          cases hn5 : nuO bs (some p4.2) 2 with
          | none =>
            rw [hn5] at e5
            subst e5
            exact daO_none _ _ _
          | some p5 =>
            rw [hn5] at e5
            subst e5
            rw [h1 p1 hn, h2 p2 hn2, h3 p3 hn3, h4 p4 hn4, h5 p5 hn5]
            rfl
theorem sqO_none {α : Type} {f : Option Nat → Option (α × Nat)} (hf : f none = none) : ∀ k, sqO f k none = none
  | 0 => rfl
  | k + 1 => by show (f none).bind _ = none; rw [hf]; rfl
def SqI {α : Type} (f : Option Nat → Option (α × Nat)) (N : Nat) (o0 : Option Nat) (k : Nat) (o : Option Nat) (D : List α) : Prop := (sqO f (N - k) o).map (fun t => (D ++ t.1, t.2)) = sqO f N o0
theorem SqI.start {α : Type} (f : Option Nat → Option (α × Nat)) (N : Nat) (o0 : Option Nat) : SqI f N o0 0 o0 [] := by
  unfold SqI
  rw [Nat.sub_zero]
  cases sqO f N o0 <;> rfl
theorem SqI.next {α : Type} {f : Option Nat → Option (α × Nat)} {N k : Nat} {o0 o : Option Nat} {D : List α} {x : α} (h : SqI f N o0 k o D) (hk : k < N) (hf : f none = none) (hx : ∀ p, f o = some p → x = p.1) : SqI f N o0 (k + 1) ((f o).map Prod.snd) (D ++ [x]) := by
  unfold SqI at h ⊢
  rw [show N - k = N - (k + 1) + 1 by omega] at h
  rw [← h]
  cases hq : f o with
  | none =>
    show (sqO f _ none).map _ = ((f o).bind _).map _
    rw [sqO_none hf, hq]
    rfl
  | some p =>
    show (sqO f _ (some p.2)).map _ = ((f o).bind _).map _
    rw [hq, hx p hq]
    simp only [Option.bind_some, Option.map_map]
    congr 1
    funext t
    simp
theorem SqI.done {α : Type} {f : Option Nat → Option (α × Nat)} {N : Nat} {o0 o : Option Nat} {D : List α} (h : SqI f N o0 N o D) : (sqO f N o0).map Prod.snd = o ∧ ∀ p, sqO f N o0 = some p → D = p.1 := by
  unfold SqI at h
  rw [Nat.sub_self] at h
  rw [← h]
  cases o with
  | none => exact ⟨rfl, fun p hp => by cases hp⟩
  | some a =>
    refine ⟨rfl, fun p hp => ?_⟩
    cases hp
    simp
theorem SqI.stop {α : Type} {f : Option Nat → Option (α × Nat)} {N k : Nat} {o0 : Option Nat} {D : List α} (hf : f none = none) (h : SqI f N o0 k none D) : sqO f N o0 = none := by
  unfold SqI at h
  rw [← h, sqO_none hf]
  rfl
def mgO (bs : List UInt8) : Option Msg := (nuO bs (some 0) 2).bind fun p1 => (nuO bs (some p1.2) 2).bind fun p2 => (nuO bs (some p2.2) 2).bind fun c0 => (nuO bs (some c0.2) 2).bind fun c1 => (nuO bs (some c1.2) 2).bind fun c2 => (nuO bs (some c2.2) 2).bind fun c3 =>
  (sqO (quO bs) c0.1 (some c3.2)).bind fun q => (sqO (reO bs) c1.1 (some q.2)).bind fun r1 => (sqO (reO bs) c2.1 (some r1.2)).bind fun r2 => (sqO (reO bs) c3.1 (some r2.2)).bind fun r3 =>
    if r3.2 = bs.length then some ⟨(p1.1 : Int), (p2.1 : Int), q.1, r1.1, r2.1, r3.1⟩ else none
end Go.Proofs.YtedmkdjijhflnaaGreat
namespace Go.Proofs.YtedmkdjijhflnaaGreat
open Go.RowKit Go.Maps

abbrev DU := DataW Unit
def keyS (x : ByteArray) : Lit := .string x.data.toList
def TellsM (D : DU) (ns : List ByteArray) (ats : List Nat) : Prop :=
  ∀ x : ByteArray, Maps.has D (keyS x) = (find8 ns ats x).isSome ∧ ∀ n, find8 ns ats x = some n → D.atKey (keyS x) (.lit (.int .i64 0)) = .lit (.int .i64 ((n : Nat) : Int))
def MapAt (w : World) (B : Nat) (m : Option Nat) (ns : List ByteArray) (ats : List Nat) : Prop :=
  match m with
  | none => ns = [] ∧ ats = []
  | some b => B ≤ b ∧ ∃ n D, w.ownsMap Tryz.prog 9 (plainElem (H := Unit) Tryz.prog 3) b n D ∧ n ≤ ns.length ∧ TellsM D ns ats
theorem find8_snoc : ∀ (ns : List ByteArray) (ats : List Nat) (x : ByteArray) (n : Nat) (y : ByteArray), ats.length = ns.length → find8 (ns ++ [x]) (ats ++ [n]) y = match find8 ns ats y with | some k => some k | none => if x = y then some n else none
  | [], [], x, n, y, _ => by simp [find8]
  | [], _ :: _, _, _, _, h => by simp at h
  | _ :: _, [], _, _, _, h => by simp at h
  | p :: ns, a :: ats, x, n, y, h => by
    have ih := find8_snoc ns ats x n y (by simpa using h)
    simp only [List.cons_append, find8]
    by_cases hp : p = y
    · rw [if_pos hp, if_pos hp]
    · rw [if_neg hp, if_neg hp, ih]
structure WrAt (w : World) (G B : Nat) (vB : Value) (m : Option Nat) (l : List UInt8) (ns : List ByteArray) (ats : List Nat) : Prop where
  c0 : w.cell? ⟨G, 0, none⟩ = some vB
  c1 : w.cell? ⟨G, 1, none⟩ = some (.map m)
  f0 : w.frozen? ⟨G, 0, none⟩ = false
  f1 : w.frozen? ⟨G, 1, none⟩ = false
  rb : w.ownsRow B 5 1 vB l.length (bys l)
  mp : MapAt w B m ns ats
  nb : vB.ownBlock ≠ some G
  gb : B ≤ G
def wblk (G : Nat) (vB : Value) (m : Option Nat) : List Nat := [G] ++ vB.ownBlock.toList ++ m.toList
section
variable {w w' : World} {G B : Nat} {vB : Value} {m : Option Nat} {l : List UInt8} {ns : List ByteArray} {ats : List Nat}
end
end Go.Proofs.YtedmkdjijhflnaaGreat
namespace Go.Proofs.YtedmkdjijhflnaaGreat
open Go.RowKit Go.ChangeMaps Go.MapKept 

theorem run_getMap {w : World} {M : Nat} {es : Array MapEntry} {cl : Nat} (hM : w.heap[M]? = some (.map es cl)) : (getObj M).run Tryz.prog w = .ok (.map es cl) w := by
  simp [getObj, Sem.run, hM]
theorem run_setMap {w : World} {M : Nat} {es : Array MapEntry} {cl : Nat} (hM : w.heap[M]? = some (.map es cl)) (o : Obj) : (setObj M o).run Tryz.prog w = .ok () (setBlock w M o) := by
  simp [setObj, Sem.run, hM, setBlock]
theorem run_put (w : World) (M : Nat) (es : Array MapEntry) (cl : Nat) (hM : w.heap[M]? = some (.map es cl)) (k : Int) (v : Value) (hk : Instr.findNow (.int .i64) (.int .i64 k) es.toList 0 = some none) :
    ∃ w', (Instr.mapUpdate 202 (.map (some M)) (.int .i64 k) v).run Tryz.prog w = .ok () w' ∧ w'.heap[M]? = some (.map (es.push ⟨.int .i64 k, v, cl⟩) (cl + 1)) ∧ Foot [M] [M] w w' := by
  have hu : (underlying 202).run Tryz.prog w = .ok _ w := run_underlying Tryz.underlying202 w
  have h1 : (Instr.checkKey false 10000 3 (.int .i64 k)).run Tryz.prog w = .ok () w := run_checkKey Tryz.underlying3 (by trivial) false 9999
  have h2 : (Instr.findKey 3 (.int .i64 k) es.toList).run Tryz.prog w = .ok none w := run_findKey Tryz.underlying3 hk
  refine ⟨setBlock w M (.map (es.push ⟨.int .i64 k, v, cl⟩) (cl + 1)), ?_, heap_setBlock_same hM _, ⟨rfl, rfl, rfl, by simp [setBlock], fun i _ hi => heap_setBlock_other hM _ (fun e => hi (by rw [e]; exact List.mem_singleton.2 rfl)), fun i hi => .inl hi⟩⟩
  unfold Instr.mapUpdate
  simp only [Sem.run_bind, hu, Result.andThen_ok, run_getMap hM, h1, h2, run_setMap hM]
theorem zero_data (w : World) : (zeroValue 224).run Tryz.prog w = .ok .nilFunc w := by
  have h : (Tryz.prog.info? 224).map (fun i => i.zero) = some (some .nilFunc) := by kernel_rfl
  obtain ⟨i, hi, hz⟩ := Option.map_eq_some_iff.1 h
  simp [zeroValue, typeInfo, hi, hz]
theorem run_look (w : World) (M : Nat) (es : Array MapEntry) (cl : Nat) (hM : w.heap[M]? = some (.map es cl)) (k : Int) (r : Option (Nat × Value)) (hk : Instr.findNow (.int .i64) (.int .i64 k) es.toList 0 = some r) :
    (Instr.lookup 202 (.map (some M)) (.int .i64 k) true).run Tryz.prog w = .ok (.tuple #[(r.map Prod.snd).getD .nilFunc, .bool r.isSome]) w := by
  have hu : (underlying 202).run Tryz.prog w = .ok _ w := run_underlying Tryz.underlying202 w
  have h1 : (Instr.checkKey es.isEmpty 10000 3 (.int .i64 k)).run Tryz.prog w = .ok () w := run_checkKey Tryz.underlying3 (by trivial) _ 9999
  have h2 : (Instr.findKey 3 (.int .i64 k) es.toList).run Tryz.prog w = .ok r w := run_findKey Tryz.underlying3 hk
  unfold Instr.lookup
  cases r with
  | none => simp only [Sem.run_bind, hu, Result.andThen_ok, run_getMap hM, h1, h2, zero_data, Sem.run_pure, if_true]; rfl
  | some p => simp only [Sem.run_bind, hu, Result.andThen_ok, run_getMap hM, h1, h2, Sem.run_pure, if_true]; rfl
def waysE (G R B4 F4 B16 F16 : Nat) : Array MapEntry :=
  #[⟨.int .i64 1, .func (.func 125) #[] #[.pointer (some ⟨B4, 0, none⟩), .pointer (some ⟨R, 0, none⟩), .pointer (some ⟨F4, 0, none⟩)], 0⟩,
    ⟨.int .i64 28, .func (.func 125) #[] #[.pointer (some ⟨B16, 0, none⟩), .pointer (some ⟨R, 0, none⟩), .pointer (some ⟨F16, 0, none⟩)], 1⟩,
    ⟨.int .i64 5, .func (.func 126) #[] #[.pointer (some ⟨R, 0, none⟩)], 2⟩]
theorem ways_find (G R B4 F4 B16 F16 : Nat) (k : Int) : Instr.findNow (.int .i64) (.int .i64 k) (waysE G R B4 F4 B16 F16).toList 0 = some (if k = 1 then some (0, .func (.func 125) #[] #[.pointer (some ⟨B4, 0, none⟩), .pointer (some ⟨R, 0, none⟩), .pointer (some ⟨F4, 0, none⟩)]) else
    if k = 28 then some (1, .func (.func 125) #[] #[.pointer (some ⟨B16, 0, none⟩), .pointer (some ⟨R, 0, none⟩), .pointer (some ⟨F16, 0, none⟩)]) else if k = 5 then some (2, .func (.func 126) #[] #[.pointer (some ⟨R, 0, none⟩)]) else none) := by
  by_cases h1 : k = 1
  · subst h1; rfl
  · by_cases h2 : k = 28
    · subst h2; rfl
    · by_cases h3 : k = 5
      · subst h3; rfl
      · have b1 : (k == 1) = false := by simpa using h1
        have b2 : (k == 28) = false := by simpa using h2
        have b3 : (k == 5) = false := by simpa using h3
        simp [waysE, Instr.findNow, Instr.sameNow, b1, b2, b3, h1, h2, h3]
structure WaysAt (w : World) (G M R B4 F4 B16 F16 : Nat) : Prop where
  map : w.heap[M]? = some (.map (waysE G R B4 F4 B16 F16) 3)
  r : BoxAt w R (.pointer (some ⟨G, 0, none⟩))
  b4 : BoxAt w B4 (.int .i64 4)
  f4 : BoxAt w F4 (.int .i64 4)
  b16 : BoxAt w B16 (.int .i64 16)
  f16 : BoxAt w F16 (.int .i64 6)
theorem WaysAt.keep {w w' : World} {G M R B4 F4 B16 F16 : Nat} (h : WaysAt w G M R B4 F4 B16 F16) {F F' : List Nat} (hf : Foot F F' w w') (hn : ∀ k ∈ F, k ≠ M ∧ k ≠ R ∧ k ≠ B4 ∧ k ≠ F4 ∧ k ≠ B16 ∧ k ≠ F16) : WaysAt w' G M R B4 F4 B16 F16 :=
  ⟨(hf.keep M (Array.getElem?_eq_some_iff.1 h.map).1 (fun e => (hn M e).1 rfl)).trans h.map, h.r.keep hf (fun e => (hn R e).2.1 rfl), h.b4.keep hf (fun e => (hn B4 e).2.2.1 rfl), h.f4.keep hf (fun e => (hn F4 e).2.2.2.1 rfl), h.b16.keep hf (fun e => (hn B16 e).2.2.2.2.1 rfl), h.f16.keep hf (fun e => (hn F16 e).2.2.2.2.2 rfl)⟩
end Go.Proofs.YtedmkdjijhflnaaGreat
namespace Go.Proofs.YtedmkdjijhflnaaGreat
open Go.RowKit Go.ChangeMaps Go.MapKept

theorem BoxAt.new (w : World) (v : Value) (t : TypeId) : BoxAt (w.alloc (.cells #[v] t)) w.heap.size v := ⟨by rw [World.cell?_alloc_new]; rfl, by simp⟩
set_option maxRecDepth 100000 in
set_option maxHeartbeats 1000000 in
theorem addr1_any (w : World) (fam by0 : Int) (R : Nat) :
    Calls Tryz.prog 124 #[.int .i64 fam, .int .i64 by0, .pointer (some ⟨R, 0, none⟩)] w fun e w' => e = .returned (.func (.func 125) #[] #[.pointer (some ⟨w.heap.size + 1, 0, none⟩), .pointer (some ⟨R, 0, none⟩), .pointer (some ⟨w.heap.size, 0, none⟩)]) ∧ BoxAt w' (w.heap.size + 1) (.int .i64 by0) ∧ BoxAt w' w.heap.size (.int .i64 fam) ∧ Below w.heap.size w w' := by
  obtain ⟨W, hW⟩ : ∃ W, (w.alloc (.cells #[.int .i64 fam] 3)).alloc (.cells #[.int .i64 by0] 3) = W := ⟨_, rfl⟩
  have h1 : BoxAt W w.heap.size (.int .i64 fam) := by rw [← hW]; exact (BoxAt.new w _ _).below ((Below.refl _ _).alloc (Nat.le_refl _) _)
  have h2 : BoxAt W (w.heap.size + 1) (.int .i64 by0) := by
    rw [← hW]
    have := BoxAt.new (w.alloc (.cells #[.int .i64 fam] 3)) (.int .i64 by0) 3
    simpa using this
  have h3 : Below w.heap.size w W := by rw [← hW]; exact ((Below.refl _ _).alloc (Nat.le_refl _) _).alloc (by simp) _
  have H := Lib.hid (And.intro h1 (And.intro h2 h3))
  clear h1 h2 h3
  go_enter Tryz.func124, Tryz.ntmps124
  go_wp2_with fail
  try rw [hW]
  go_ret
  exact ⟨rfl, H.out.2.1, H.out.1, H.out.2.2⟩
theorem HBT {w a b c : World} {M : Nat} (h : Below w.heap.size w a) (h1 : Below a.heap.size a b) (h2 : Foot [M] [M] b c) (hM : w.heap.size ≤ M) : Below w.heap.size w c :=
  have hab := chain h h1
  ⟨h2.os.trans hab.os, h2.tape.trans hab.tape, h2.output.trans hab.output, Nat.le_trans hab.size h2.size, fun k hk => (h2.keep k (Nat.lt_of_lt_of_le hk hab.size) (fun e => by have := List.mem_singleton.1 e; omega)).trans (hab.block k hk)⟩
set_option maxRecDepth 100000 in
set_option maxHeartbeats 2000000 in
theorem ways_any (w : World) (G : Nat) :
    Calls Tryz.prog 107 #[.pointer (some ⟨G, 0, none⟩)] w fun e w' => ∃ M R B4 F4 B16 F16, e = .returned (.map (some M)) ∧ WaysAt w' G M R B4 F4 B16 F16 ∧ (w.heap.size ≤ M ∧ w.heap.size ≤ R ∧ w.heap.size ≤ B4 ∧ w.heap.size ≤ F4 ∧ w.heap.size ≤ B16 ∧ w.heap.size ≤ F16) ∧ Below w.heap.size w w' := by
  obtain ⟨W, hW⟩ : ∃ W, w.alloc (.cells #[.pointer (some ⟨G, 0, none⟩)] 200) = W := ⟨_, rfl⟩
  have HR0 : Hid (BoxAt W w.heap.size (.pointer (some ⟨G, 0, none⟩))) := Lib.hid (by rw [← hW]; exact BoxAt.new w _ _)
  have HB0 : Hid (Below w.heap.size w W) := Lib.hid (by rw [← hW]; exact (Below.refl _ _).alloc (Nat.le_refl _) _)
  go_enter Tryz.func107, Tryz.ntmps107
  go_upto_region 2 with fail
  try rw [hW]
  clear hW
  obtain ⟨R, hR⟩ : ∃ R, w.heap.size = R := ⟨_, rfl⟩
  have HRE := Lib.hid hR
  rw [hR] at HR0
  try rw [hR]
  clear hR
  have hmk : (Instr.makeMap 202 none).run Tryz.prog W = .ok (.map (some W.heap.size)) (W.alloc (.map #[] 0)) := by rfl
  obtain ⟨W1, hW1⟩ : ∃ W1, W.alloc (.map #[] 0) = W1 := ⟨_, rfl⟩
  obtain ⟨M, hM⟩ : ∃ M, W.heap.size = M := ⟨_, rfl⟩
  have HMM : Hid (W1.heap[M]? = some (.map #[] 0) ∧ M < W1.heap.size ∧ w.heap.size ≤ M) := Lib.hid ⟨by rw [← hW1, ← hM]; exact (MapKept.heap_alloc W _).1, by rw [← hW1, ← hM]; simp, by rw [← hM]; exact HB0.out.size⟩
  have HB1 : Hid (Below W.heap.size W W1) := Lib.hid (by rw [← hW1]; exact (Below.refl _ _).alloc (Nat.le_refl _) _)
  have HRM : Hid (R < M) := Lib.hid (by rw [← hM]; exact HR0.out.2)
  replace HR0 := Lib.hid (HR0.out.below HB1.out)
  replace HB0 := Lib.hid (chain HB0.out HB1.out)
  rw [hW1, hM] at hmk
  clear hW1 HB1 hM
  go_wp2_with fail
  refine (addr1_any _ 4 4 R).mono ?_
  rintro e w2 ⟨rfl, h1, h2, h3⟩
  obtain ⟨F4, hF4⟩ : ∃ F4, W1.heap.size = F4 := ⟨_, rfl⟩
  obtain ⟨W2, hput, HM2, HF2⟩ := run_put w2 M #[] 0 ((h3.block M HMM.out.2.1).trans HMM.out.1) 1 (.func (.func 125) #[] #[.pointer (some ⟨F4 + 1, 0, none⟩), .pointer (some ⟨R, 0, none⟩), .pointer (some ⟨F4, 0, none⟩)]) rfl
  rw [hF4] at h1 h2
  have HLE2 : Hid (M < F4) := Lib.hid (by rw [← hF4]; exact HMM.out.2.1)
  have HBX2 := Lib.hid (h1.keep HF2 (by have := HLE2.out; simp only [List.mem_singleton]; omega))
  have HFX2 := Lib.hid (h2.keep HF2 (by have := HLE2.out; simp only [List.mem_singleton]; omega))
  have HR2 := Lib.hid ((HR0.out.below h3).keep HF2 (by have := HRM.out; simp only [List.mem_singleton]; omega))
  have HB2 : Hid (Below w.heap.size w W2) := Lib.hid (HBT HB0.out h3 HF2 HMM.out.2.2)
  have HMM2 := Lib.hid HM2
  rw [hF4]
  clear h1 h2 h3 HM2 HF2 HR0 HB0 hmk
  go_wp2_with fail
  refine (addr1_any _ 6 16 R).mono ?_
  rintro e w3 ⟨rfl, h1, h2, h3⟩
  obtain ⟨F16, hF16⟩ : ∃ F16, W2.heap.size = F16 := ⟨_, rfl⟩
  obtain ⟨W3, hput3, HM3, HF3⟩ := run_put w3 M _ _ ((h3.block M (Array.getElem?_eq_some_iff.1 HMM2.out).1).trans HMM2.out) 28 (.func (.func 125) #[] #[.pointer (some ⟨F16 + 1, 0, none⟩), .pointer (some ⟨R, 0, none⟩), .pointer (some ⟨F16, 0, none⟩)]) rfl
  have HLE3 : Hid (F4 + 1 < F16 ∧ M < F16) := Lib.hid (by rw [← hF16]; exact ⟨HBX2.out.2, (Array.getElem?_eq_some_iff.1 HMM2.out).1⟩)
  rw [hF16] at h1 h2
  have HBX3 := Lib.hid (h1.keep HF3 (by have := HLE3.out; simp only [List.mem_singleton]; omega))
  have HFX3 := Lib.hid (h2.keep HF3 (by have := HLE3.out; simp only [List.mem_singleton]; omega))
  replace HBX2 := Lib.hid ((HBX2.out.below h3).keep HF3 (by have := HLE2.out; simp only [List.mem_singleton]; omega))
  replace HFX2 := Lib.hid ((HFX2.out.below h3).keep HF3 (by have := HLE2.out; simp only [List.mem_singleton]; omega))
  replace HR2 := Lib.hid ((HR2.out.below h3).keep HF3 (by have := HRM.out; simp only [List.mem_singleton]; omega))
  replace HB2 : Hid (Below w.heap.size w W3) := Lib.hid (HBT HB2.out h3 HF3 HMM.out.2.2)
  obtain ⟨W4, hput4, HM4, HF4⟩ := run_put W3 M _ _ HM3 5 (.func (.func 126) #[] #[.pointer (some ⟨R, 0, none⟩)]) rfl
  have HW : Hid (WaysAt W4 G M R (F4 + 1) F4 (F16 + 1) F16) := Lib.hid ⟨HM4, HR2.out.keep HF4 (by have := HRM.out; simp only [List.mem_singleton]; omega), HBX2.out.keep HF4 (by have := HLE2.out; simp only [List.mem_singleton]; omega), HFX2.out.keep HF4 (by have := HLE2.out; simp only [List.mem_singleton]; omega), HBX3.out.keep HF4 (by have := HLE3.out; simp only [List.mem_singleton]; omega), HFX3.out.keep HF4 (by have := HLE3.out; simp only [List.mem_singleton]; omega)⟩
  have HB4 : Hid (Below w.heap.size w W4) := Lib.hid (HBT HB2.out (Below.refl _ _) HF4 HMM.out.2.2)
  rw [hF16]
  clear h1 h2 h3 HM3 HF3 HM4 HF4 HBX2 HFX2 HBX3 HFX3 HR2 HB2 HMM2
  go_wp2_with fail
  go_ret
  have hM := HMM.out.2.2
  have hR := HRE.out
  have h2 := HLE2.out
  have h3 := HLE3.out
  exact ⟨M, R, F4 + 1, F4, F16 + 1, F16, rfl, HW.out, ⟨hM, by omega, by omega, by omega, by omega, by omega⟩, HB4.out⟩
end Go.Proofs.YtedmkdjijhflnaaGreat

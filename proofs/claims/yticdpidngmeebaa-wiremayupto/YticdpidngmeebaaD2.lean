/- Texts that belong together, one behind the other: RefLabBytes, RefLabGood, RefRun, Foot, AppendFoot, BytesKit, RefRunAny, RefReadDefs, RefReadAny, RefFind8, RefName8, RefNameSt, RefNameFin. -/
import Derived.Test.YticdpidngmeebaaD1
import Derived.Lib.AppendStr
import Derived.Deep.MidRow
import Derived.Maps.AppendAt
import Derived.Laws.AppendOwnNone
import Derived.Deep.Cut
import Derived.Deep.RegionHeld3
/- Contracts of the reference's layer 8: Bytes, SameBytes, Good. -/
namespace Go.Proofs.Yticdpidngmeebaa
open Go.RowKit
set_option linter.unusedVariables false
set_option maxRecDepth 20000

/-- A label's bytes. -/
def labL (p : ByteArray) : List UInt8 := UInt8.ofNat p.size :: p.data.toList
def bytesTo (l : List ByteArray) : Nat → List UInt8
  | 0 => []
  | k + 1 => bytesTo l k ++ labL (l.getD k ⟨#[]⟩)
/-- A name's bytes. -/
def bytesL (l : List ByteArray) : List UInt8 := bytesTo l l.length ++ [0]
theorem bytesTo_len {l : List ByteArray} (h : ∀ p ∈ l, p.size ≤ 255) : ∀ k, (bytesTo l k).length ≤ k * 256
  | 0 => by simp [bytesTo]
  | k + 1 => by
    have h1 := bytesTo_len h k
    have h2 := getD_small h k
    unfold bytesTo labL
    have h3 : (l.getD k ⟨#[]⟩).data.toList.length = (l.getD k ⟨#[]⟩).size := Array.length_toList
    rw [List.length_append, List.length_cons, h3]
    omega
/-- A row of one's own, over a lower base. -/
theorem own_lower8 {w : World} {B B' : Nat} {t : TypeId} {z : Nat} {v : Value} {n : Nat} {xs : List Value} (h : w.ownsRow B t z v n xs) (hB : B' ≤ B) : w.ownsRow B' t z v n xs := by
  obtain ⟨h1, h2⟩ := h
  refine ⟨h1, ?_⟩
  rcases h2 with h2 | ⟨g, cap, cur, e, hb, rest⟩
  · exact .inl h2
  · exact .inr ⟨g, cap, cur, e, by omega, rest⟩
/-- A text's bytes behind a row of bytes of one's own. -/
theorem own_text {w0 wr w1 : World} {v v' : Value} {l : List UInt8} {s : ByteArray} (hown' : w1.ownsRow w0.heap.size 5 1 v' (l.length + s.size) (bys l ++ Lib.strCells s))
    (hg : wr.grownBy w1 v.ownBlock) (hown : wr.ownsRow w0.heap.size 5 1 v l.length (bys l)) (hb : Below w0.heap.size w0 wr) :
    w1.ownsRow w0.heap.size 5 1 v' (l ++ s.data.toList).length (bys (l ++ s.data.toList)) ∧ Below w0.heap.size w0 w1 := by
  refine ⟨?_, hb.grown hg hb.size (fun k hk => (hown.lt k hk).1)⟩
  have e : bys (l ++ s.data.toList) = bys l ++ Lib.strCells s := by simp [bys, Lib.strCells]
  rw [e, List.length_append, Array.length_toList]
  exact hown'
set_option maxRecDepth 100000 in
set_option maxHeartbeats 2000000 in
theorem refBytes8_any (s : ByteArray) (w : World) (hs : s.size ≤ 100000) (hp : ∀ p ∈ labelsB s, p.size ≤ 255) :
    Calls Try.prog 26 #[.string s] w fun e w' => ∃ v, e = .returned v ∧ w'.ownsRow w.heap.size 5 1 v (bytesL (labelsB s)).length (bys (bytesL (labelsB s))) ∧ Below w.heap.size w w' := by
  have HLA := Lib.hid (refLabels_any s w (by omega))
  have hln := labels_len s
  obtain ⟨i0, hi0, hz0, hz1, hz2⟩ := info_parts Try.infoByte
  generalize labelsB s = l at *
  have HSM := Lib.hid hp
  have HBL : Hid (bytesL l = bytesTo l l.length ++ [0]) := Lib.hid rfl
  obtain ⟨N, hN⟩ : ∃ N, l.length = N := ⟨_, rfl⟩
  have HN := Lib.hid hN
  rw [hN] at hln HBL HLA
  clear hp hN
  go_enter Try.func26, Try.ntmps26
  go_wp2_with fail
  refine HLA.out.mono ?_
  rintro e w1 ⟨a, c, rfl, hr, hb⟩
  have HR := Lib.hid hr
  have HB1 := Lib.hid hb
  have hsz1 := hb.size
  clear hr hb HLA
  go_wp2_with fail
  go_loopw [4, 5] (fun v i wr => ∃ k : Nat, k ≤ N ∧ i = .int .i64 (k : Int) ∧ wr.ownsRow w1.heap.size 5 1 v (bytesTo l k).length (bys (bytesTo l k)) ∧ Below w1.heap.size w1 wr) (fun _ i _ => N - (intOf i).toNat)
  case atStart => exact ⟨0, Nat.zero_le _, rfl, World.ownsRow_nil _ _ _ _, Below.refl _ _⟩
  case round =>
    obtain ⟨k, hk, rfl, hown, hbel⟩ := hrel
    have hbl := bytesTo_len HSM.out k
    have hwz := hbel.size
    by_cases hkN : k < N
    · have hd : decide ((k : Int) < (N : Int)) = true := decide_eq_true (by omega)
      have hdn : decide (k < N) = true := decide_eq_true hkN
      rcases HR.out with ⟨_, _, h0⟩ | ⟨g, rfl, h⟩
      · have := HN.out; rw [h0] at this; simp at this; omega
      have hc := (h.below hbel).cells k (by rw [HN.out]; exact hkN)
      have hglt := h.lt
      have HCS : Hid (∀ W, Below w1.heap.size w1 W → W.cell? ⟨g, k, none⟩ = some (.string (l.getD k ⟨#[]⟩))) := Lib.hid (fun W hb => (h.below hb).cells k (by rw [HN.out]; exact hkN))
      have hz := getD_small HSM.out k
      have HSU : Hid (bytesTo l (k + 1) = bytesTo l k ++ labL (l.getD k ⟨#[]⟩)) := Lib.hid rfl
      generalize l.getD k ⟨#[]⟩ = p at *
      generalize bytesTo l k = bl at *
      have hb1 : (0 : Int) ≤ (k : Int) := by omega
      have hb2 : (k : Int) < (N : Int) := by omega
      have hwr : IntKind.u8.wrap (p.size : Int) = (p.size : Int) := by rw [IntKind.wrap_u8]; omega
      have hpu : ((UInt8.ofNat p.size).toNat : Int) = (p.size : Int) := by rw [UInt8.toNat_ofNat']; omega
      clear h
      go_wp2_with (at_builtin; refine wpList_append_own _ rfl (.tmp 14) (.tmp 21) 27 rfl w1.heap.size 5 i0 _ 1 1 Try.underlying27 hi0 hz0 hz1 hz2 rfl (by decide) _ _ _ rfl (hown.alloc _) ⟨wr.heap.size, 0, none⟩ 1 1 [.int .u8 (p.size : Int)] rfl rfl ?c1 ?c2 ?c3 ?c4 ?c5 ?_)
      case c1 => exact cell_one_new _ _ _
      case c2 => intro u hu; simp at hu; subst hu; rfl
      case c3 => unfold maxLen; omega
      case c4 => omega
      case c5 => simp; omega
      intro v' w2 hown' hgrow _
      rw [← hpu] at hown'
      have R := own_byte hown' hgrow hown hbel
      clear hown' hgrow hown hbel hc
      obtain ⟨R1, R2⟩ := R
      have hl1 : (bl ++ [UInt8.ofNat p.size]).length ≤ bl.length + 1 := by simp
      have HE : Hid (bytesTo l (k + 1) = bl ++ [UInt8.ofNat p.size] ++ p.data.toList) := Lib.hid (by rw [HSU.out]; unfold labL; simp)
      generalize bl ++ [UInt8.ofNat p.size] = bm at *
      have hc2 := HCS.out w2 R2
      have hw2 := R2.size
      go_wp2_with (at_builtin; refine Lib.wpList_append_own_string _ rfl (.tmp 23) (.tmp 27) 27 9 rfl w1.heap.size 5 i0 Try.underlying27 Try.underlying9 hi0 hz0 hz1 hz2 _ _ _ rfl R1 p rfl ?c1 ?c2 ?c3 ?_)
      case c1 => unfold maxLen; omega
      case c2 => omega
      case c3 => exact hw2
      intro v2 w3 hown3 hgrow3 _
      have R3 := own_text hown3 hgrow3 R1 R2
      clear hown3 hgrow3 R1 R2 hc2
      go_wp2_with fail
      go_roundw
      case rel => exact ⟨k + 1, by omega, by go_num, by rw [HE.out]; exact R3.1, R3.2⟩
      case measure => simp [intOf]; omega
    · obtain rfl : k = N := by omega
      have hd : decide ((k : Int) < (k : Int)) = false := by simp
      generalize bytesTo l k = bl at *
      go_wp2_with (at_builtin; refine wpList_append_own _ rfl (.tmp 29) (.tmp 30) 27 rfl w1.heap.size 5 i0 _ 1 1 Try.underlying27 hi0 hz0 hz1 hz2 rfl (by decide) _ _ _ rfl (hown.alloc _) ⟨wr.heap.size, 0, none⟩ 1 1 [.int .u8 0] rfl rfl ?c1 ?c2 ?c3 ?c4 ?c5 ?_)
      case c1 => exact cell_one_new _ _ _
      case c2 => intro u hu; simp at hu; subst hu; rfl
      case c3 => unfold maxLen; omega
      case c4 => omega
      case c5 => simp; omega
      intro v' w2 hown' hgrow _
      have R := own_byte (x := 0) hown' hgrow hown hbel
      clear hown' hgrow hown hbel
      go_wp2_with fail
      go_ret
      exact ⟨v', rfl, by rw [HBL.out]; exact own_lower8 R.1 hsz1, chain HB1.out R.2⟩
end Go.Proofs.Yticdpidngmeebaa
/- Contracts of the reference's layer 8: SameBytes, Good. -/
namespace Go.Proofs.Yticdpidngmeebaa
open Go.RowKit
set_option linter.unusedVariables false
set_option maxRecDepth 20000

/-- These are a slice's bytes (as a conversion to a text reads them). -/
def BytesAt (w : World) (v : Value) (l : List UInt8) : Prop := (convert 27 9 v).run Try.prog w = .ok (.string ⟨l.toArray⟩) w
set_option maxRecDepth 100000 in
theorem refSameBytes_any (v1 v2 : Value) (l1 l2 : List UInt8) (w : World) (h1 : BytesAt w v1 l1) (h2 : BytesAt w v2 l2) :
    Calls Try.prog 16 #[v1, v2] w fun e w' => e = .returned (.bool (decide (l1 = l2))) ∧ w' = w := by
  unfold BytesAt at h1 h2
  have HE : Hid (((⟨l1.toArray⟩ : ByteArray).toList == (⟨l2.toArray⟩ : ByteArray).toList) = decide (l1 = l2)) := Lib.hid (by
    rw [Bool.eq_iff_iff, beq_iff_eq, decide_eq_true_iff, ByteArray.toList_eq, ByteArray.toList_eq])
  generalize decide (l1 = l2) = b at *
  generalize (⟨l1.toArray⟩ : ByteArray) = x1 at *
  generalize (⟨l2.toArray⟩ : ByteArray) = x2 at *
  go_enter Try.func16, Try.ntmps16
  go_wp2_with fail
  go_ret
  exact ⟨bool_ret HE.out, rfl⟩
/-- The labels of a name made good. -/
def goodTo (l : List ByteArray) : Nat → List ByteArray
  | 0 => []
  | k + 1 => if 6 ≤ (goodTo l k).length then goodTo l k else if (few (l.getD k ⟨#[]⟩) 12).size = 0 then goodTo l k else goodTo l k ++ [few (l.getD k ⟨#[]⟩) 12]
theorem goodTo_len (l : List ByteArray) : ∀ k, (goodTo l k).length ≤ 6
  | 0 => by simp [goodTo]
  | k + 1 => by
    have h := goodTo_len l k
    unfold goodTo
    split
    · exact h
    · split
      · exact h
      · simp; omega
theorem goodTo_small (l : List ByteArray) : ∀ k, ∀ p ∈ goodTo l k, p.size ≤ 12
  | 0 => by simp [goodTo]
  | k + 1 => by
    have h := goodTo_small l k
    unfold goodTo
    split
    · exact h
    · split
      · exact h
      · intro p hp
        rcases List.mem_append.1 hp with hp | hp
        · exact h p hp
        · rw [List.mem_singleton.1 hp]; exact few_size _ _
theorem goodTo_full {l : List ByteArray} {k : Nat} (h : 6 ≤ (goodTo l k).length) : ∀ m, goodTo l (k + m) = goodTo l k
  | 0 => rfl
  | m + 1 => by
    have e := goodTo_full h m
    rw [← Nat.add_assoc]
    show (if 6 ≤ (goodTo l (k + m)).length then goodTo l (k + m) else _) = _
    rw [e, if_pos h]
/-- A name made good. -/
def goodN (s : ByteArray) : ByteArray := joinB (goodTo (labelsB s) (labelsB s).length) ⟨#[46]⟩
theorem goodN_small (s : ByteArray) : (goodN s).size ≤ 100 := by
  have h1 := joinTo_le (goodTo_small (labelsB s) (labelsB s).length) (goodTo (labelsB s) (labelsB s).length).length
  have h2 := goodTo_len (labelsB s) (labelsB s).length
  unfold goodN joinB
  omega
theorem join_nil (sep : ByteArray) (w : World) : Calls Try.prog 54 #[.slice none 0 0, .string sep] w fun e w' => e = .returned (.string ⟨#[]⟩) ∧ w = w' := by
  go_enter Try.func54, Try.ntmps54
  go_wp2_with fail
  go_loop [5, 6] (fun t i => t = .string ⟨#[]⟩ ∧ i = .int .i64 0) (fun _ _ => 0)
  case atStart => exact ⟨rfl, rfl⟩
  case round =>
    obtain ⟨rfl, rfl⟩ := hrel
    go_wp2_with fail
    go_ret
    exact ⟨rfl, rfl⟩
/-- Join of a row of one's own. -/
theorem join_own {w : World} {B : Nat} {v : Value} {l : List ByteArray} (h : w.ownsRow B 9 1 v l.length (l.map Value.string)) (hn : l.length ≤ 2000000) (hj : (joinB l ⟨#[46]⟩).size ≤ 2000000) :
    Calls Try.prog 54 #[v, .string ⟨#[46]⟩] w fun e w' => e = .returned (.string (joinB l ⟨#[46]⟩)) ∧ w = w' := by
  by_cases h0 : 0 < l.length
  · obtain ⟨g, c, rfl, _, hr⟩ := own_row h h0
    exact join_any g l.length c l ⟨#[46]⟩ w rfl hn (by decide) hj (fun i hi => by
      rw [hr.cells i hi, List.getD_eq_getElem?_getD, List.getElem?_eq_getElem hi]; rfl)
  · obtain rfl : l = [] := List.eq_nil_of_length_eq_zero (by omega)
    rcases h.2 with ⟨rfl, _⟩ | ⟨g, cap, cur, rfl, _⟩
    · exact join_nil _ w
    · exact join_any g 0 cap [] ⟨#[46]⟩ w rfl (by decide) (by decide) (by decide) (fun i hi => absurd hi (by simp))
set_option maxRecDepth 100000 in
set_option maxHeartbeats 2000000 in
theorem refGoodN_any (s : ByteArray) (w : World) (hs : s.size ≤ 1900000) :
    Calls Try.prog 25 #[.string s] w fun e w' => e = .returned (.string (goodN s)) ∧ Below w.heap.size w w' := by
  have HLA := Lib.hid (refLabels_any s w (by omega))
  have hln := labels_len s
  have HSM : Hid (∀ p ∈ labelsB s, p.size ≤ 2000000) := Lib.hid (fun p hp => Nat.le_trans (labels_small s p hp) (by omega))
  have HGN : Hid (goodN s = joinB (goodTo (labelsB s) (labelsB s).length) ⟨#[46]⟩) := Lib.hid rfl
  have HGS := Lib.hid (goodN_small s)
  obtain ⟨i0, hi0, hz0, hz1, hz2⟩ := info_parts Try.infoString
  generalize goodN s = R at *
  generalize labelsB s = l at *
  obtain ⟨N, hN⟩ : ∃ N, l.length = N := ⟨_, rfl⟩
  have HN := Lib.hid hN
  rw [hN] at hln HGN HLA
  clear hN
  go_enter Try.func25, Try.ntmps25
  go_wp2_with fail
  refine HLA.out.mono ?_
  rintro e w1 ⟨a, c, rfl, hr, hb⟩
  have HR := Lib.hid hr
  have HB1 := Lib.hid hb
  clear hr hb HLA
  have FIN : ∀ (v : Value) (o : List ByteArray) (wr : World), Hid (wr.ownsRow w1.heap.size 9 1 v o.length (o.map Value.string) → o = goodTo l N → Calls Try.prog 54 #[v, .string ⟨#[46]⟩] wr fun e w' => e = .returned (.string R) ∧ wr = w') := fun v o wr => Lib.hid (fun h e => by
    have := join_own h (by rw [e]; have := goodTo_len l N; omega) (by rw [e, ← HGN.out]; exact Nat.le_trans HGS.out (by decide))
    rw [e, ← HGN.out] at this
    exact this)
  go_wp2_with fail
  go_loopw [4, 5] (fun v i wr => ∃ (k : Nat) (o : List ByteArray) (v0 : Value), k ≤ N ∧ v0 = v ∧ i = .int .i64 (k : Int) ∧ Hid (o = goodTo l k) ∧ wr.ownsRow w1.heap.size 9 1 v o.length (o.map Value.string) ∧ Below w1.heap.size w1 wr) (fun _ i _ => N - (intOf i).toNat)
  case atStart => exact ⟨0, [], _, Nat.zero_le _, rfl, rfl, Lib.hid rfl, World.ownsRow_nil _ _ _ _, Below.refl _ _⟩
  case round =>
    obtain ⟨k, o, v, hk, rfl, rfl, HO, hown, hbel⟩ := hrel
    have hol : o.length ≤ 6 := by rw [HO.out]; exact goodTo_len l k
    have hwz := hbel.size
    by_cases hkN : k < N
    · have hd : decide ((k : Int) < (N : Int)) = true := decide_eq_true (by omega)
      have hdn : decide (k < N) = true := decide_eq_true hkN
      have hvs : ∃ va vc, v = .slice va o.length vc := by
        rcases hown.2 with ⟨h1, h2⟩ | ⟨g, cap, cur, h1, _⟩
        · exact ⟨none, 0, by rw [h1, h2]⟩
        · exact ⟨_, _, h1⟩
      obtain ⟨va, vc, rfl⟩ := hvs
      by_cases h6 : o.length < 6
      · have hd6 : decide ((o.length : Int) < 6) = true := decide_eq_true (by omega)
        have hd6n : decide (o.length < 6) = true := decide_eq_true h6
        rcases HR.out with ⟨_, _, h0⟩ | ⟨g, rfl, h⟩
        · have := HN.out; rw [h0] at this; simp at this; omega
        have hc := (h.below hbel).cells k (by rw [HN.out]; exact hkN)
        have hz := getD_small HSM.out k
        have HSU : Hid (goodTo l (k + 1) = if (few (l.getD k ⟨#[]⟩) 12).size = 0 then o else o ++ [few (l.getD k ⟨#[]⟩) 12]) := Lib.hid (by
          show (if 6 ≤ (goodTo l k).length then goodTo l k else _) = _
          rw [← HO.out, if_neg (by omega)])
        have HFE := fun W => Lib.hid (few_any (l.getD k ⟨#[]⟩) 12 W (by unfold maxLen; omega) (by decide))
        have hfs := few_size (l.getD k ⟨#[]⟩) 12
        generalize few (l.getD k ⟨#[]⟩) 12 = q at *
        generalize l.getD k ⟨#[]⟩ = p at *
        have hb1 : (0 : Int) ≤ (k : Int) := by omega
        have hb2 : (k : Int) < (N : Int) := by omega
        clear h HO
        go_wp2_with fail
        refine (HFE _).out.mono ?_
        rintro e w2 ⟨rfl, rfl⟩
        clear HFE hc
        by_cases hq : q.size = 0
        · have hqe := isEmpty_true q hq
          have HO2 : Hid (o = goodTo l (k + 1)) := Lib.hid (by rw [HSU.out, if_pos hq])
          clear HSU hq
          go_wp2_with fail
          go_roundw
          case rel => exact ⟨k + 1, o, _, by omega, rfl, by go_num, HO2, hown, hbel⟩
          case measure => simp [intOf]; omega
        · have hqe := isEmpty_false q (by omega)
          have HO2 : Hid (o ++ [q] = goodTo l (k + 1)) := Lib.hid (by rw [HSU.out, if_neg hq])
          clear HSU
          go_wp2_with (at_builtin; refine wpList_append_own _ rfl (.tmp 27) (.tmp 29) 68 rfl w1.heap.size 9 i0 _ 1 16 Try.underlying68 hi0 hz0 hz1 hz2 rfl (by decide) _ _ _ rfl (hown.alloc _) ⟨wr.heap.size, 0, none⟩ 1 1 [.string q] rfl rfl ?c1 ?c2 ?c3 ?c4 ?c5 ?_)
          case c1 => exact cell_one_new _ _ _
          case c2 => intro u hu; simp at hu; subst hu; rfl
          case c3 => unfold maxLen; omega
          case c4 => omega
          case c5 => simp; omega
          intro v' w3 hown' hgrow _
          have R := own_snoc hown' hgrow hown hbel
          clear hown' hgrow hown hbel
          go_wp2_with fail
          go_roundw
          case rel => exact ⟨k + 1, o ++ [q], _, by omega, rfl, by go_num, HO2, R.1, R.2⟩
          case measure => simp [intOf]; omega
      · have hd6 : decide ((o.length : Int) < 6) = false := decide_eq_false (by omega)
        have hd6n : decide (o.length < 6) = false := decide_eq_false h6
        have HJ := Lib.hid ((FIN _ o wr).out hown (by
          have e := goodTo_full (l := l) (k := k) (by rw [← HO.out]; omega) (N - k)
          rw [show k + (N - k) = N by omega] at e
          rw [e]; exact HO.out))
        have HBe := Lib.hid (chain HB1.out hbel)
        clear FIN hown hbel HO HR
        go_wp2_with fail
        refine HJ.out.mono ?_
        rintro e w2 ⟨rfl, rfl⟩
        go_wp2_with fail
        go_ret
        exact ⟨rfl, HBe.out⟩
    · have hd : decide ((k : Int) < (N : Int)) = false := decide_eq_false (by omega)
      have hdn : decide (k < N) = false := decide_eq_false hkN
      have HJ := Lib.hid ((FIN v o wr).out hown (by rw [HO.out, show k = N by omega]))
      have HBe := Lib.hid (chain HB1.out hbel)
      clear FIN hown hbel HO HR
      go_wp2_with fail
      refine HJ.out.mono ?_
      rintro e w2 ⟨rfl, rfl⟩
      go_wp2_with fail
      go_ret
      exact ⟨rfl, HBe.out⟩
end Go.Proofs.Yticdpidngmeebaa
/- Contracts of the reference's layer 8: Run (and Has of layer 1). -/
namespace Go.Proofs.Yticdpidngmeebaa
open Go.RowKit
set_option linter.unusedVariables false
set_option maxRecDepth 20000

/-- One of the first k bytes of a text is c. -/
def hasTo (s : ByteArray) (c : Nat) : Nat → Bool
  | 0 => false
  | k + 1 => hasTo s c k || decide ((s.data.toList.getD k 0).toNat = c)
def has8 (s : ByteArray) (c : Nat) : Bool := hasTo s c s.size
theorem hasTo_mono {s : ByteArray} {c k : Nat} (h : hasTo s c k = true) : ∀ m, hasTo s c (k + m) = true
  | 0 => h
  | m + 1 => by rw [← Nat.add_assoc, hasTo, hasTo_mono h m]; rfl
theorem getD_byte (s : ByteArray) (k : Nat) (h : k < s.size) : s.data.toList.getD k 0 = s[k] := by
  rw [List.getD_eq_getElem?_getD, List.getElem?_eq_getElem (by simpa using h)]; rfl
theorem refHas8_any (s : ByteArray) (c : Nat) (w : World) (hs : s.size ≤ 2000000) (hc : c < 256) :
    Calls Try.prog 91 #[.string s, .int .u8 (c : Int)] w fun e w' => e = .returned (.bool (has8 s c)) ∧ w = w' := by
  have HH : Hid (has8 s c = hasTo s c s.size) := Lib.hid rfl
  generalize has8 s c = b at *
  go_enter Try.func91, Try.ntmps91
  go_wp2_with fail
  go_loop [5] (fun i => ∃ k : Nat, k ≤ s.size ∧ i = .int .i64 (k : Int) ∧ Hid (hasTo s c k = false)) (fun i => s.size - (intOf i).toNat)
  case atStart => exact ⟨0, Nat.zero_le _, rfl, Lib.hid rfl⟩
  case round =>
    obtain ⟨k, hk, rfl, HO⟩ := hrel
    by_cases hlt : k < s.size
    · have hd : decide ((k : Int) < (s.size : Int)) = true := decide_eq_true (by omega)
      have hdn : decide (k < s.size) = true := decide_eq_true hlt
      have HN : Hid (hasTo s c (k + 1) = decide ((s[k]).toNat = c)) := Lib.hid (by rw [hasTo, HO.out, getD_byte s k hlt]; rfl)
      have u1 : (s[k]).toNat < 256 := (s[k]).toNat_lt
      by_cases he : (s[k]).toNat = c
      · have hb : (((s[k]).toNat : Int) == (c : Int)) = true := by rw [he]; simp
        have EB : b = true := by
          rw [HH.out]
          have := hasTo_mono (s := s) (c := c) (k := k + 1) (by rw [HN.out]; exact decide_eq_true he) (s.size - (k + 1))
          rwa [show k + 1 + (s.size - (k + 1)) = s.size by omega] at this
        subst EB
        clear he HH HO HN
        go_wp2_with fail
        go_ret
        exact ⟨rfl, rfl⟩
      · have hb : (((s[k]).toNat : Int) == (c : Int)) = false := by rw [beq_eq_false_iff_ne]; omega
        have HO2 : Hid (hasTo s c (k + 1) = false) := Lib.hid (by rw [HN.out]; exact decide_eq_false he)
        clear he HO HN
        go_wp2_with fail
        go_round
        case rel => exact ⟨k + 1, by omega, by go_num, HO2⟩
        case measure => simp [intOf]; omega
    · obtain rfl : k = s.size := by omega
      have hd : decide ((s.size : Int) < (s.size : Int)) = false := by simp
      have EB : b = false := by rw [HH.out]; exact HO.out
      subst EB
      clear HH HO
      go_wp2_with fail
      go_ret
      exact ⟨rfl, rfl⟩
/-- Bytes that came in, as a walk reads them. -/
def BytesIn (w : World) (a : Option Addr) (cap : Nat) (bs : List UInt8) : Prop :=
  bs.length ≤ cap ∧ cap ≤ maxLen ∧ (bs.length = 0 ∨ ∃ x : Addr, a = some x ∧ ∀ i (h : i < bs.length), w.cell? (x.add i) = some (.int .u8 ((bs[i].toNat : Nat) : Int)))
theorem BytesIn.below {w w' : World} {a : Option Addr} {cap : Nat} {bs : List UInt8} (h : BytesIn w a cap bs) (hb : Below w.heap.size w w') : BytesIn w' a cap bs := by
  obtain ⟨h1, h2, h3⟩ := h
  refine ⟨h1, h2, ?_⟩
  rcases h3 with h3 | ⟨x, e, h3⟩
  · exact .inl h3
  · exact .inr ⟨x, e, fun i hi => by rw [hb.cell (p := x.add i) (World.block_lt_of_cell? w _ (h3 i hi))]; exact h3 i hi⟩
/-- The label that stands at i, of n bytes. -/
def ownAt (bs : List UInt8) (i n : Nat) : ByteArray := ⟨((bs.drop (i + 1)).take n).toArray⟩
theorem ownAt_size {bs : List UInt8} {i n : Nat} (h : i + 1 + n ≤ bs.length) : (ownAt bs i n).size = n := by
  show ((bs.drop (i + 1)).take n).toArray.size = n
  simp; omega
def runB (bs : List UInt8) (had : Nat) : Nat → Nat → List ByteArray → List ByteArray × Nat × Bool × Int
  | 0, _, _ => ([], 0, false, 2)
  | f + 1, i, l =>
    if bs.length ≤ i then ([], 0, false, 2) else
    if (bs.getD i 0).toNat = 0 then (l, i, false, 0) else
    if 192 ≤ (bs.getD i 0).toNat then (l, i, true, 0) else
    if 63 < (bs.getD i 0).toNat ∨ bs.length < i + 1 + (bs.getD i 0).toNat then ([], 0, false, 2) else
    if has8 (ownAt bs i (bs.getD i 0).toNat) 46 = true then ([], 0, false, 2) else
    if 255 < had + sizeL (l ++ [ownAt bs i (bs.getD i 0).toNat]) then ([], 0, false, 3) else
    runB bs had f (i + 1 + (bs.getD i 0).toNat) (l ++ [ownAt bs i (bs.getD i 0).toNat])
/-- What Run hands back. -/
def RunRet (w : World) (R : List ByteArray × Nat × Bool × Int) (e : Ending) (w' : World) : Prop :=
  ∃ v, e = .returned (.tuple #[v, .int .i64 (R.2.1 : Int), .bool R.2.2.1, .int .i64 R.2.2.2]) ∧ w'.ownsRow w.heap.size 9 1 v R.1.length (R.1.map Value.string) ∧ Below w.heap.size w w'
theorem own_RowS {w : World} {B : Nat} {v : Value} {l : List ByteArray} (h : w.ownsRow B 9 1 v l.length (l.map Value.string)) : ∃ a c, v = .slice a l.length c ∧ (RowS w a c l ∨ l = []) := by
  by_cases h0 : 0 < l.length
  · obtain ⟨g, c, rfl, _, hr⟩ := own_row h h0
    exact ⟨_, _, rfl, .inl (.inr ⟨g, rfl, hr⟩)⟩
  · obtain rfl : l = [] := List.eq_nil_of_length_eq_zero (by omega)
    rcases h.2 with ⟨rfl, _⟩ | ⟨g, cap, cur, rfl, _⟩
    · exact ⟨_, _, rfl, .inr rfl⟩
    · exact ⟨_, _, rfl, .inr rfl⟩
theorem refSize_own {w : World} {B : Nat} {v : Value} {l : List ByteArray} (h : w.ownsRow B 9 1 v l.length (l.map Value.string)) (hsm : ∀ p ∈ l, p.size ≤ 2000000) (hn : l.length ≤ 2000000) :
    Calls Try.prog 70 #[v] w fun e w' => e = .returned (.int .i64 ((sizeL l : Nat) : Int)) ∧ w' = w := by
  by_cases h0 : 0 < l.length
  · obtain ⟨g, c, rfl, _, hr⟩ := own_row h h0
    exact refSize_any _ c l w (.inr ⟨g, rfl, hr⟩) hsm hn
  · obtain rfl : l = [] := List.eq_nil_of_length_eq_zero (by omega)
    obtain ⟨a, c, rfl, _⟩ := own_RowS h
    go_enter Try.func70, Try.ntmps70
    go_wp2_with fail
    go_loop [3, 4] (fun t i => t = .int .i64 1 ∧ i = .int .i64 0) (fun _ _ => 0)
    case atStart => exact ⟨rfl, rfl⟩
    case round =>
      obtain ⟨rfl, rfl⟩ := hrel
      go_wp2_with fail
      go_ret
      exact ⟨rfl, rfl⟩
end Go.Proofs.Yticdpidngmeebaa
/- What a thing of one's own may turn: the blocks of its footprint, and new ones. -/
namespace Go.Proofs.Yticdpidngmeebaa
open Go.RowKit
set_option linter.unusedVariables false
set_option maxRecDepth 20000

/-- Nothing but the blocks of F has turned; F' holds such as were in F, and new ones. -/
structure Foot (F F' : List Nat) (w w' : World) : Prop where
  os : w'.os = w.os
  tape : w'.tape = w.tape
  output : w'.output = w.output
  size : w.heap.size ≤ w'.heap.size
  keep : ∀ k, k < w.heap.size → k ∉ F → w'.heap[k]? = w.heap[k]?
  new : ∀ k ∈ F', k ∈ F ∨ w.heap.size ≤ k
theorem Foot.ofBelow (F : List Nat) {w w' : World} (h : Below w.heap.size w w') : Foot F F w w' := ⟨h.os, h.tape, h.output, h.size, fun k hk _ => h.block k hk, fun k hk => .inl hk⟩
theorem Foot.trans {F F' F'' : List Nat} {a b c : World} (h : Foot F F' a b) (k : Foot F' F'' b c) : Foot F F'' a c :=
  ⟨k.os.trans h.os, k.tape.trans h.tape, k.output.trans h.output, Nat.le_trans h.size k.size, fun i hi hn => (k.keep i (Nat.lt_of_lt_of_le hi h.size) (fun e => by
    rcases h.new i e with e | e
    · exact hn e
    · omega)).trans (h.keep i hi hn), fun i hi => by
    rcases k.new i hi with e | e
    · exact h.new i e
    · exact .inr (Nat.le_trans h.size e)⟩
theorem Foot.below {F F' : List Nat} {w w' : World} {B : Nat} (h : Foot F F' w w') (hF : ∀ k ∈ F, B ≤ k) (hB : B ≤ w.heap.size) : Below B w w' :=
  ⟨h.os, h.tape, h.output, h.size, fun k hk => h.keep k (by omega) (fun e => by have := hF k e; omega)⟩
theorem Foot.out {F F' : List Nat} {w w' : World} (h : Foot F F' w w') {k : Nat} (hk : k < w.heap.size) (hn : k ∉ F) : k ∉ F' := fun e => by
  rcases h.new k e with e | e
  · exact hn e
  · omega
theorem range_foot {F F' : List Nat} {w w' : World} (h : Foot F F' w w') {G o : Nat} {cs : List Value} (hr : w.rangeAt G o cs) (hk : G < w.heap.size) (hn : G ∉ F) : w'.rangeAt G o cs := fun j u hu => by
  rw [World.cell?_of_block (w := w) (a := ⟨G, o + j, none⟩) (h.keep G hk hn)]; exact hr j u hu
/-- A row's block is none of the footprint's. -/
def NotIn (v : Value) (F : List Nat) : Prop := ∀ g, v.ownBlock = some g → g ∉ F
theorem Foot.wider {F F' K : List Nat} {w w' : World} (h : Foot F F' w w') (hk : ∀ k ∈ F, k ∈ K) : Foot K (F' ++ K) w w' :=
  ⟨h.os, h.tape, h.output, h.size, fun k hk2 hn => h.keep k hk2 (fun e => hn (hk k e)), fun k hk2 => by
    rcases List.mem_append.1 hk2 with e | e
    · rcases h.new k e with e | e
      · exact .inl (hk k e)
      · exact .inr e
    · exact .inl e⟩
/-- An append's footprint: the row's own block. -/
theorem Foot.ofGrown {w w' : World} {v v' : Value} (h : w.grownBy w' v.ownBlock) (hv : v'.ownBlock = v.ownBlock ∨ ∀ g, v'.ownBlock = some g → w.heap.size ≤ g) : Foot v.ownBlock.toList v'.ownBlock.toList w w' :=
  ⟨h.os, h.tape, h.output, h.size, fun k hk hn => h.block k hk (fun e => hn (by rw [← e]; simp)), fun k hk => by
    have hk2 : v'.ownBlock = some k := by simpa using hk
    rcases hv with e | e
    · exact .inl (by rw [← e, hk2]; simp)
    · exact .inr (e k hk2)⟩
end Go.Proofs.Yticdpidngmeebaa
/- Appends to rows of one's own, with their footprints: bytes, texts, numbers; a text's bytes. -/
namespace Go.Proofs.Yticdpidngmeebaa
open Go.RowKit
set_option linter.unusedVariables false
set_option maxRecDepth 20000

/-- Where a row lies when a text's bytes are behind it: where it lay, or in the newest block. -/
theorem text_block {P : Program} {w : World} {base : Nat} {t u ty e : TypeId} {i : TypeInfo} (ht : P.underlying t = some (.slice e)) (hu : P.underlying u = some .string) (hi : P.info? e = some i) (hz : i.zero = some (.int .u8 0)) (hsize : i.size = 1) (hby : i.bytes = 1)
    {v : Value} {n : Nat} {xs : List Value} (hown : w.ownsRow base e 1 v n xs) (s : ByteArray) (hn : n + s.size ≤ 1000000000) {v' : Value} {w' : World} (hr : (Builtin.append_ #[t, u] ty #[v, .string s]).run P w = .ok v' w') : v'.ownBlock = v.ownBlock ∨ v'.ownBlock = some w.heap.size := by
  have hxl : xs.length = n := by simpa using hown.1
  rcases hown.2 with ⟨rfl, rfl⟩ | ⟨g, cap, cur, rfl, hbg, hg, hnc, hcm, hcs, htake⟩
  · by_cases hm : s.size = 0
    · have hf := Lib.run_firstCells_string (P := P) w 1 s
      rw [hm] at hf
      have h2 : (Builtin.append_ #[t, u] ty #[.slice none 0 0, .string s]).run P w = .ok (.slice none 0 0) w := by
        simp [Builtin.append_, run_underlying ht, run_underlying hu, sizeOf, typeInfo, hi, hsize, Builtin.lenOf, hm, hf]
      rw [h2] at hr
      cases hr
      exact .inl rfl
    · have h2 := run_append_nil_string (P := P) w t u ty e i (.int .u8 0) ht hu hi hz s (by omega) (by omega) (by rw [hby]; omega)
      rw [h2] at hr
      cases hr
      exact .inr rfl
  · by_cases hroom : n + s.size ≤ cap
    · have hcs' : cur.size = cap := by simpa using hcs
      have h2 := Lib.run_append_room_string (P := P) w t u ty e i ht hu hi hsize g n cap cur hg s hroom (by omega)
      rw [h2] at hr
      cases hr
      exact .inl rfl
    · have holds : ∀ j u, xs[j]? = some u → w.cell? ((⟨g, 0, none⟩ : Addr).add j) = some u := hown.cells (g := g) rfl
      have h2 := Lib.run_append_grow_string (P := P) w t u ty e i (.int .u8 0) ht hu hi hz ⟨g, 0, none⟩ n cap xs (by rw [hsize]; simpa using hxl) holds s (by omega) (by omega) (by rw [hby]; exact growslice_fits (by omega) (by omega))
      rw [h2] at hr
      cases hr
      exact .inr rfl
/-- A text's bytes behind a row of bytes of one's own. -/
theorem wp_append_text {op : Oper} {a : Act} {w : World} {K : Act → World → Prop} {Q : Exit → Act → World → Prop} {B : Nat} {v : Value} {l : List UInt8} {s : ByteArray} (hown : Hid (w.ownsRow B 5 1 v l.length (bys l))) (hn : Hid (l.length + s.size ≤ 1000000000 ∧ B ≤ w.heap.size)) (sl x : Operand)
    (ho : op.op = .call { callee := .builtin .append, args := #[sl, x], argTypes := #[27, 9] }) (hs : a.eval sl = v) (hx : a.eval x = .string s)
    (h : ∀ v' w', Hid (w'.ownsRow B 5 1 v' (l ++ s.data.toList).length (bys (l ++ s.data.toList))) → Hid (w.grownBy w' v.ownBlock) → Hid (Foot v.ownBlock.toList v'.ownBlock.toList w w') → K (a.put op.dst v') w') : op.wp Try.prog a w K Q := by
  obtain ⟨i0, hi0, hz0, hz1, hz2⟩ := info_parts Try.infoByte
  obtain ⟨hn1, hn2⟩ := hn.out
  obtain ⟨v', w', hr, h2, h3, _⟩ := Lib.run_append_own_string (P := Try.prog) w B 27 9 op.type 5 i0 Try.underlying27 Try.underlying9 hi0 hz0 hz1 hz2 v l.length (bys l) hown.out s (by unfold maxLen; omega) (by omega) hn2
  have h5 := text_block Try.underlying27 Try.underlying9 hi0 hz0 hz1 hz2 hown.out s hn1 hr
  unfold Oper.wp execOp
  simp only [ho, resolve, invoke, builtin, Sem.run_bind, Sem.run_pure, Result.andThen_ok, List.map_toArray, List.map_cons, List.map_nil, hs, hx, hr]
  refine h v' w' (Lib.hid ?_) (Lib.hid h3) (Lib.hid (Foot.ofGrown h3 (h5.imp id (fun e g hg => by rw [e] at hg; cases hg; exact Nat.le_refl _))))
  have e1 : bys (l ++ s.data.toList) = bys l ++ Lib.strCells s := by simp [bys, Lib.strCells]
  have e2 : s.data.toList.length = s.size := Array.length_toList
  rw [e1, List.length_append, e2]
  exact h2
/-- Bytes that lie somewhere, behind a row of bytes of one's own. -/
theorem wp_append_bytes {op : Oper} {a : Act} {w : World} {K : Act → World → Prop} {Q : Exit → Act → World → Prop} {B G c : Nat} {v : Value} {l m : List UInt8} (hown : Hid (w.ownsRow B 5 1 v l.length (bys l))) (hm : Hid (∀ j u, (bys m)[j]? = some u → w.cell? ⟨G, j, none⟩ = some u)) (hn : Hid (l.length + m.length ≤ 1000000000 ∧ B ≤ w.heap.size)) (sl x : Operand)
    (ho : op.op = .call { callee := .builtin .append, args := #[sl, x], argTypes := #[27, 27] }) (hs : a.eval sl = v) (hx : a.eval x = .slice (some ⟨G, 0, none⟩) m.length c)
    (h : ∀ v' w', Hid (w'.ownsRow B 5 1 v' (l ++ m).length (bys (l ++ m))) → Hid (w.grownBy w' v.ownBlock) → Hid (Foot v.ownBlock.toList v'.ownBlock.toList w w') → K (a.put op.dst v') w') : op.wp Try.prog a w K Q := by
  obtain ⟨i0, hi0, hz0, hz1, hz2⟩ := info_parts Try.infoByte
  obtain ⟨hn1, hn2⟩ := hn.out
  obtain ⟨v', w', hr, h2, h3, _, h5⟩ := run_append_own_at (P := Try.prog) w B 27 op.type 5 i0 _ 1 1 Try.underlying27 hi0 hz0 hz1 hz2 rfl (by decide) v l.length (bys l) hown.out ⟨G, 0, none⟩ m.length c (bys m) (by rw [bys_length, Nat.mul_one]) (fun j u hu => by rw [add_none]; exact hm.out j u hu) (fun u hu => by
    obtain ⟨q, _, rfl⟩ := List.mem_map.1 hu
    rfl) (by unfold maxLen; omega) (by omega) hn2
  unfold Oper.wp execOp
  simp only [ho, resolve, invoke, builtin, Sem.run_bind, Sem.run_pure, Result.andThen_ok, List.map_toArray, List.map_cons, List.map_nil, hs, hx, hr]
  refine h v' w' (Lib.hid ?_) (Lib.hid h3) (Lib.hid (Foot.ofGrown h3 (h5.imp id (fun e g hg => by rw [e] at hg; cases hg; exact Nat.le_refl _))))
  have e1 : bys (l ++ m) = bys l ++ bys m := by simp [bys]
  rw [e1, List.length_append]
  exact h2
/-- A text behind a row of texts of one's own. -/
theorem wp_append_str {op : Oper} {a : Act} {w : World} {K : Act → World → Prop} {Q : Exit → Act → World → Prop} {B G c : Nat} {v : Value} {l : List ByteArray} {p : ByteArray} (hown : Hid (w.ownsRow B 9 1 v l.length (l.map Value.string))) (hm : Hid (w.cell? ⟨G, 0, none⟩ = some (.string p))) (hn : Hid (l.length ≤ 2000000 ∧ B ≤ w.heap.size)) (sl x : Operand)
    (ho : op.op = .call { callee := .builtin .append, args := #[sl, x], argTypes := #[68, 68] }) (hs : a.eval sl = v) (hx : a.eval x = .slice (some ⟨G, 0, none⟩) 1 c)
    (h : ∀ v' w', Hid (w'.ownsRow B 9 1 v' (l ++ [p]).length ((l ++ [p]).map Value.string)) → Hid (w.grownBy w' v.ownBlock) → Hid (Foot v.ownBlock.toList v'.ownBlock.toList w w') → K (a.put op.dst v') w') : op.wp Try.prog a w K Q := by
  obtain ⟨i0, hi0, hz0, hz1, hz2⟩ := info_parts Try.infoString
  obtain ⟨hn1, hn2⟩ := hn.out
  obtain ⟨v', w', hr, h2, h3, _, h5⟩ := run_append_own_at (P := Try.prog) w B 68 op.type 9 i0 _ 1 16 Try.underlying68 hi0 hz0 hz1 hz2 rfl (by decide) v l.length (l.map Value.string) hown.out ⟨G, 0, none⟩ 1 c [.string p] rfl (fun j u hu => by
      match j, hu with
      | 0, hu => rw [add_none, hm.out]; exact hu
      | j + 1, hu => simp at hu) (fun u hu => by rw [List.mem_singleton.1 hu]; rfl) (by unfold maxLen; omega) (by omega) hn2
  unfold Oper.wp execOp
  simp only [ho, resolve, invoke, builtin, Sem.run_bind, Sem.run_pure, Result.andThen_ok, List.map_toArray, List.map_cons, List.map_nil, hs, hx, hr]
  refine h v' w' (Lib.hid ?_) (Lib.hid h3) (Lib.hid (Foot.ofGrown h3 (h5.imp id (fun e g hg => by rw [e] at hg; cases hg; exact Nat.le_refl _))))
  simpa using h2
end Go.Proofs.Yticdpidngmeebaa
/- Bytes that came in: opened, cut, put behind bytes of one's own. -/
namespace Go.Proofs.Yticdpidngmeebaa
open Go.RowKit
set_option linter.unusedVariables false
set_option maxRecDepth 20000

/-- A row of numbers that came in. -/
def IsRow (k : IntKind) (W : World) (a : Option Addr) (len cap : Nat) (zs : List Int) : Prop :=
  (a = none ∧ len = 0 ∧ cap = 0 ∧ zs = []) ∨ ∃ x : Addr, a = some x ∧ len ≤ cap ∧ cap ≤ maxLen ∧ zs.length = cap ∧ (∀ i, i < zs.length → W.cell? (x.add i) = some (.int k (zs.getD i 0))) ∧ ∀ n ∈ zs, (Lit.int k n).wf = true
theorem u8_of {n : Int} (h : (Lit.int .u8 n).wf = true) : ((UInt8.ofNat n.toNat).toNat : Int) = n := by
  have hb : 0 ≤ n ∧ n < 256 := by
    have := h
    simp [Lit.wf] at this
    have e1 : IntKind.u8.min = 0 := rfl
    have e2 : IntKind.u8.max = 255 := rfl
    omega
  rw [UInt8.toNat_ofNat', Nat.mod_eq_of_lt (by omega)]
  omega
/-- Bytes that came in, and of which no nil row has room. -/
def BytesIn2 (w : World) (a : Option Addr) (cap : Nat) (bs : List UInt8) : Prop := BytesIn w a cap bs ∧ (a = none → cap = 0)
theorem bytes_of_row {W : World} {a : Option Addr} {len cap : Nat} {zs : List Int} (h : IsRow .u8 W a len cap zs) : ∃ bs : List UInt8, bs.length = len ∧ BytesIn2 W a cap bs := by
  rcases h with ⟨rfl, rfl, rfl, rfl⟩ | ⟨x, rfl, h1, h2, h3, h4, h5⟩
  · exact ⟨[], rfl, ⟨Nat.le_refl _, Nat.zero_le _, .inl rfl⟩, fun _ => rfl⟩
  · refine ⟨(zs.take len).map (fun n => UInt8.ofNat n.toNat), by simp; omega, ⟨by simp; omega, h2, .inr ⟨x, rfl, fun i hi => ?_⟩⟩, fun h => by cases h⟩
    have hi2 : i < len := by simp at hi; omega
    have hi3 : i < zs.length := by omega
    rw [h4 i hi3, List.getElem_map, List.getElem_take, u8_of (h5 _ (List.getElem_mem hi3)), List.getD_eq_getElem?_getD, List.getElem?_eq_getElem hi3]
    rfl
theorem BytesIn2.below {w w' : World} {a : Option Addr} {cap : Nat} {bs : List UInt8} (h : BytesIn2 w a cap bs) (hb : Below w.heap.size w w') : BytesIn2 w' a cap bs := ⟨h.1.below hb, h.2⟩
theorem BytesIn2.take {w : World} {a : Option Addr} {cap : Nat} {bs : List UInt8} (h : BytesIn2 w a cap bs) (m : Nat) : BytesIn2 w a cap (bs.take m) := by
  obtain ⟨⟨h1, h2, h3⟩, h4⟩ := h
  refine ⟨⟨by rw [List.length_take]; omega, h2, ?_⟩, h4⟩
  rcases h3 with h3 | ⟨x, e, h3⟩
  · exact .inl (by rw [List.length_take]; omega)
  · refine .inr ⟨x, e, fun i hi => ?_⟩
    rw [List.length_take] at hi
    rw [h3 i (by omega), List.getElem_take]
/-- Bytes of one's own, as bytes that came in are read. -/
theorem in_own {w : World} {B : Nat} {v : Value} {l : List UInt8} (h : w.ownsRow B 5 1 v l.length (bys l)) : ∃ a c, v = .slice a l.length c ∧ BytesIn2 w a c l := by
  rcases h.2 with ⟨rfl, h2⟩ | ⟨g, cap, cur, h1, _, _, h3, h4, _⟩
  · exact ⟨none, 0, by rw [h2], ⟨by omega, Nat.zero_le _, .inl h2⟩, fun _ => rfl⟩
  · subst h1
    refine ⟨_, _, rfl, ⟨h3, h4, .inr ⟨⟨g, 0, none⟩, rfl, fun i hi => ?_⟩⟩, fun h => by cases h⟩
    refine h.cells (g := g) rfl i _ ?_
    unfold bys
    rw [List.getElem?_map, List.getElem?_eq_getElem hi]
    rfl
/-- Bytes that came in, put behind bytes of one's own. -/
theorem wp_append_in {op : Oper} {a : Act} {w : World} {K : Act → World → Prop} {Q : Exit → Act → World → Prop} {B c : Nat} {v : Value} {ad : Option Addr} {l m : List UInt8} (hown : Hid (w.ownsRow B 5 1 v l.length (bys l))) (hm : Hid (BytesIn2 w ad c m)) (hn : Hid (l.length + m.length ≤ 1000000000 ∧ B ≤ w.heap.size)) (sl x : Operand)
    (ho : op.op = .call { callee := .builtin .append, args := #[sl, x], argTypes := #[27, 27] }) (hs : a.eval sl = v) (hx : a.eval x = .slice ad m.length c)
    (h : ∀ v' w', Hid (w'.ownsRow B 5 1 v' (l ++ m).length (bys (l ++ m))) → Hid (w.grownBy w' v.ownBlock) → Hid (Foot v.ownBlock.toList v'.ownBlock.toList w w') → K (a.put op.dst v') w') : op.wp Try.prog a w K Q := by
  obtain ⟨i0, hi0, hz0, hz1, hz2⟩ := info_parts Try.infoByte
  obtain ⟨hn1, hn2⟩ := hn.out
  obtain ⟨⟨hm1, hm2, hm3⟩, hm4⟩ := hm.out
  cases ad with
  | none =>
    have hc0 := hm4 rfl
    subst hc0
    obtain rfl : m = [] := List.eq_nil_of_length_eq_zero (by omega)
    have hr := run_append_owned_none (P := Try.prog) (w := w) B 27 op.type 5 i0 1 Try.underlying27 hi0 v l.length _ hown.out
    unfold Oper.wp execOp
    simp only [ho, resolve, invoke, builtin, Sem.run_bind, Sem.run_pure, Result.andThen_ok, List.map_toArray, List.map_cons, List.map_nil, hs, hx, List.length_nil, hr]
    refine h v w (Lib.hid (by rw [List.append_nil]; exact hown.out)) (Lib.hid ⟨rfl, rfl, rfl, Nat.le_refl _, fun i _ _ => rfl⟩) (Lib.hid (Foot.ofBelow _ (Below.refl _ _)))
  | some y =>
    obtain ⟨v', w', hr, h2, h3, _, h5⟩ := run_append_own_at (P := Try.prog) w B 27 op.type 5 i0 _ 1 1 Try.underlying27 hi0 hz0 hz1 hz2 rfl (by decide) v l.length (bys l) hown.out y m.length c (bys m) (by rw [bys_length, Nat.mul_one]) (fun j u hu => by
      have hj : j < m.length := by
        have := (List.getElem?_eq_some_iff.1 hu).1
        rwa [bys_length] at this
      rcases hm3 with h0 | ⟨x2, e, hc⟩
      · omega
      · cases e
        rw [hc j hj]
        unfold bys at hu
        rw [List.getElem?_map, List.getElem?_eq_getElem hj] at hu
        exact hu) (fun u hu => by
      obtain ⟨q, _, rfl⟩ := List.mem_map.1 hu
      rfl) (by unfold maxLen; omega) (by omega) hn2
    unfold Oper.wp execOp
    simp only [ho, resolve, invoke, builtin, Sem.run_bind, Sem.run_pure, Result.andThen_ok, List.map_toArray, List.map_cons, List.map_nil, hs, hx, hr]
    refine h v' w' (Lib.hid ?_) (Lib.hid h3) (Lib.hid (Foot.ofGrown h3 (h5.imp id (fun e g hg => by rw [e] at hg; cases hg; exact Nat.le_refl _))))
    have e1 : bys (l ++ m) = bys l ++ bys m := by simp [bys]
    rw [e1, List.length_append]
    exact h2
end Go.Proofs.Yticdpidngmeebaa
/- Contract of the reference's Run of layer 8. -/
namespace Go.Proofs.Yticdpidngmeebaa
open Go.RowKit
set_option linter.unusedVariables false
set_option maxRecDepth 20000

theorem add_add (x : Addr) (i j : Nat) : (x.add i).add j = x.add (i + j) := by
  cases x with
  | mk b o p =>
    by_cases hi : i = 0
    · subst hi; simp [Addr.add]
    · by_cases hj : j = 0
      · subst hj; simp [Addr.add]
      · simp [Addr.add, hi, hj, Nat.add_assoc]
theorem results_tmp4 {fn : Func} {t u v x : Tmp} (h : fn.results = #[.tmp t, .tmp u, .tmp v, .tmp x]) (tmps : Array Value) (P : Program) (w : World) :
    (results fn tmps).run P w = .ok (.tuple #[tmps.getD t undef, tmps.getD u undef, tmps.getD v undef, tmps.getD x undef]) w := by
  simp [results, h]
/-- 'string(b[i+1:i+1+n])'. -/
theorem own_text_at {w : World} {x : Addr} {bs : List UInt8} {i n : Nat} (c : Nat) (h : ∀ j (h : j < bs.length), w.cell? (x.add j) = some (.int .u8 ((bs[j].toNat : Nat) : Int))) (hn : i + 1 + n ≤ bs.length) :
    (convert 27 9 (.slice (some (x.add (i + 1))) n c)).run Try.prog w = .ok (.string (ownAt bs i n)) w := by
  have hl : ((bs.drop (i + 1)).take n).length = n := by simp; omega
  have := run_convert_bytes_back (P := Try.prog) w 27 9 5 (x.add (i + 1)) c ((bs.drop (i + 1)).take n) Try.underlying27 Try.underlying5 Try.underlying9 (fun j hj => by
    rw [add_add, h (i + 1 + j) (by omega)]
    simp)
  rw [hl] at this
  exact this
set_option maxRecDepth 100000 in
set_option maxHeartbeats 4000000 in
theorem refRun_any (a : Option Addr) (cap : Nat) (bs : List UInt8) (at0 had : Nat) (w : World) (hB : BytesIn w a cap bs) (hat : at0 ≤ bs.length) (hhad : had ≤ 100000) (hbl : bs.length ≤ 100000) :
    Calls Try.prog 72 #[.slice a bs.length cap, .int .i64 (at0 : Int), .int .i64 (had : Int)] w (RunRet w (runB bs had (bs.length + 1 - at0) at0 [])) := by
  have HBI := Lib.hid hB
  obtain ⟨i0, hi0, hz0, hz1, hz2⟩ := info_parts Try.infoString
  have hcl := hB.1
  have hcm : cap ≤ 9223372036854775807 := by have := hB.2.1; unfold maxLen at this; omega
  obtain ⟨R, hR⟩ : ∃ R, runB bs had (bs.length + 1 - at0) at0 [] = R := ⟨_, rfl⟩
  have HR := Lib.hid hR
  rw [hR]
  obtain ⟨N, hN⟩ : ∃ N, bs.length = N := ⟨_, rfl⟩
  have HN := Lib.hid hN
  rw [hN] at hat hbl hcl HR ⊢
  clear hB hR hN
  have FIN : ∀ (v : Value) (l : List ByteArray) (wr : World) (en : Nat) (p : Bool) (er : Int), Hid (wr.ownsRow w.heap.size 9 1 v l.length (l.map Value.string) → Below w.heap.size w wr → R = (l, en, p, er) → RunRet w R (.returned (.tuple #[v, .int .i64 (en : Int), .bool p, .int .i64 er])) wr) := fun v l wr en p er => Lib.hid (fun h1 h2 h3 => by
    rw [h3]; exact ⟨v, rfl, h1, h2⟩)
  have NIL : ∀ (wr : World) (er : Int), Hid (Below w.heap.size w wr → R = ([], 0, false, er) → RunRet w R (.returned (.tuple #[.slice none 0 0, .int .i64 0, .bool false, .int .i64 er])) wr) := fun wr er => Lib.hid (fun h1 h2 => by
    rw [h2]; exact ⟨_, rfl, World.ownsRow_nil _ _ _ _, h1⟩)
  go_enter Try.func72, Try.ntmps72
  go_wp2_with fail
  go_loopw [10, 11] (fun s10 s11 wr => ∃ (i f : Nat) (l : List ByteArray) (v : Value), i ≤ N ∧ N + 1 ≤ i + f ∧ v = s10 ∧ s11 = .int .i64 (i : Int) ∧ l.length ≤ i ∧ Hid (∀ p ∈ l, p.size ≤ 63) ∧ Hid (runB bs had f i l = R) ∧ wr.ownsRow w.heap.size 9 1 v l.length (l.map Value.string) ∧ Below w.heap.size w wr) (fun _ s11 _ => N + 1 - (intOf s11).toNat)
  case atStart => exact ⟨at0, N + 1 - at0, [], _, hat, by omega, rfl, rfl, Nat.zero_le _, Lib.hid (fun p hp => by cases hp), HR, World.ownsRow_nil _ _ _ _, Below.refl _ _⟩
  case round =>
    clear HR
    obtain ⟨i, f0, l, v, hi, hif, rfl, rfl, hll, HSM, HRI, hown, hbel⟩ := hrel
    obtain ⟨f, rfl⟩ : ∃ f, f0 = f + 1 := ⟨f0 - 1, by omega⟩
    unfold runB at HRI
    rw [HN.out] at HRI
    have hwz := hbel.size
    by_cases hiN : N ≤ i
    · have hd : decide ((N : Int) ≤ (i : Int)) = true := decide_eq_true (by omega)
      have hdn : decide (N ≤ i) = true := decide_eq_true hiN
      rw [if_pos hiN] at HRI
      have HE := Lib.hid ((NIL wr 2).out hbel HRI.out.symm)
      clear HRI FIN NIL hown hbel
      go_wp2_with fail
      refine bodyPost_ret (results_tmp4 rfl _ _ _) rfl ?_
      exact HE.out
    · have hd : decide ((N : Int) ≤ (i : Int)) = false := decide_eq_false (by omega)
      have hdn : decide (N ≤ i) = false := decide_eq_false hiN
      rw [if_neg hiN] at HRI
      obtain ⟨_, _, hrow⟩ := HBI.out
      rcases hrow with h0 | ⟨x, rfl, hcells⟩
      · rw [HN.out] at h0; omega
      have hib : i < bs.length := by rw [HN.out]; omega
      have hcw := hcells i hib
      have hgd : bs.getD i 0 = bs[i] := by rw [List.getD_eq_getElem?_getD, List.getElem?_eq_getElem hib]; rfl
      rw [hgd] at HRI
      have hcell : wr.cell? (x.add i) = some (.int .u8 ((bs[i].toNat : Nat) : Int)) := by rw [hbel.cell (p := x.add i) (World.block_lt_of_cell? w _ hcw)]; exact hcw
      have HCV : Hid (∀ n c, i + 1 + n ≤ N → (convert 27 9 (.slice (some (x.add (i + 1))) n c)).run Try.prog wr = .ok (.string (ownAt bs i n)) wr) := Lib.hid (fun n c hn => own_text_at c (fun j hj => by rw [hbel.cell (p := x.add j) (World.block_lt_of_cell? w _ (hcells j hj))]; exact hcells j hj) (by rw [HN.out]; exact hn))
      have hu := bs[i].toNat_lt
      generalize bs[i].toNat = n at *
      have hb1 : (0 : Int) ≤ (i : Int) := by omega
      have hb2 : (i : Int) < (N : Int) := by omega
      clear hcw hgd hib hcells
      by_cases hn0 : n = 0
      · rw [if_pos hn0] at HRI
        subst hn0
        have HE := Lib.hid ((FIN v l wr i false 0).out hown hbel HRI.out.symm)
        clear HRI FIN NIL hown hbel HCV
        go_wp2_with fail
        refine bodyPost_ret (results_tmp4 rfl _ _ _) rfl ?_
        exact HE.out
      · have he0 : ((n : Int) == 0) = false := by rw [beq_eq_false_iff_ne]; omega
        rw [if_neg hn0] at HRI
        by_cases h192 : 192 ≤ n
        · have hd2 : decide (192 ≤ (n : Int)) = true := decide_eq_true (by omega)
          have hd2n : decide (192 ≤ n) = true := decide_eq_true h192
          rw [if_pos h192] at HRI
          have HE := Lib.hid ((FIN v l wr i true 0).out hown hbel HRI.out.symm)
          clear HRI FIN NIL hown hbel HCV
          go_wp2_with fail
          refine bodyPost_ret (results_tmp4 rfl _ _ _) rfl ?_
          exact HE.out
        · have hd2 : decide (192 ≤ (n : Int)) = false := decide_eq_false (by omega)
          have hd2n : decide (192 ≤ n) = false := decide_eq_false h192
          rw [if_neg h192] at HRI
          by_cases h63 : 63 < n
          · have hd3 : decide (63 < (n : Int)) = true := decide_eq_true (by omega)
            have hd3n : decide (63 < n) = true := decide_eq_true h63
            rw [if_pos (.inl h63)] at HRI
            have HE := Lib.hid ((NIL wr 2).out hbel HRI.out.symm)
            clear HRI FIN NIL hown hbel HCV
            go_wp2_with fail
            refine bodyPost_ret (results_tmp4 rfl _ _ _) rfl ?_
            exact HE.out
          · have hd3 : decide (63 < (n : Int)) = false := decide_eq_false (by omega)
            have hd3n : decide (63 < n) = false := decide_eq_false h63
            by_cases hlong : N < i + 1 + n
            · have hd4 : decide ((N : Int) < (i : Int) + 1 + (n : Int)) = true := decide_eq_true (by omega)
              rw [if_pos (.inr hlong)] at HRI
              have HE := Lib.hid ((NIL wr 2).out hbel HRI.out.symm)
              clear HRI FIN NIL hown hbel HCV
              go_wp2_with fail
              refine bodyPost_ret (results_tmp4 rfl _ _ _) rfl ?_
              exact HE.out
            · have hd4 : decide ((N : Int) < (i : Int) + 1 + (n : Int)) = false := decide_eq_false (by omega)
              rw [if_neg (fun h => by omega)] at HRI
              have hcv := HCV.out n (cap - (i + 1)) (by omega)
              rw [show x.add (i + 1) = ⟨x.block, x.off + (i + 1), none⟩ from by simp [Addr.add]] at hcv
              have hos : (ownAt bs i n).size = n := ownAt_size (by rw [HN.out]; omega)
              have hck : ¬ cap = i + 1 := by omega
              have HHA := fun W => Lib.hid (refHas8_any (ownAt bs i n) 46 W (by omega) (by decide))
              generalize ownAt bs i n = own at *
              have hb3 : (i : Int) + 1 ≤ (i : Int) + 1 + (n : Int) := by omega
              have hb4 : (i : Int) + 1 + (n : Int) ≤ (cap : Int) := by omega
              clear HCV
              go_wp2_with fail
              refine (HHA _).out.mono ?_
              rintro e w2 ⟨rfl, rfl⟩
              clear HHA hcv hcell
              cases hhas : has8 own 46 with
              | true =>
                rw [hhas, if_pos rfl] at HRI
                have HE := Lib.hid ((NIL wr 2).out hbel HRI.out.symm)
                clear HRI FIN NIL hown hbel hhas
                go_wp2_with fail
                refine bodyPost_ret (results_tmp4 rfl _ _ _) rfl ?_
                exact HE.out
              | false =>
                rw [hhas, if_neg (by decide)] at HRI
                clear hhas
                go_wp2_with (at_builtin; refine wpList_append_own _ rfl (.tmp 56) (.tmp 58) 68 rfl w.heap.size 9 i0 _ 1 16 Try.underlying68 hi0 hz0 hz1 hz2 rfl (by decide) _ _ _ rfl (hown.alloc _) ⟨wr.heap.size, 0, none⟩ 1 1 [.string own] rfl rfl ?c1 ?c2 ?c3 ?c4 ?c5 ?_)
                case c1 => exact cell_one_new _ _ _
                case c2 => intro u hu; simp at hu; subst hu; rfl
                case c3 => unfold maxLen; omega
                case c4 => omega
                case c5 => simp; omega
                intro v' w3 hown' hgrow _
                obtain ⟨R1, R2⟩ := own_snoc hown' hgrow hown hbel
                clear hown' hgrow hown hbel
                have HSM2 : Hid (∀ p ∈ l ++ [own], p.size ≤ 63) := Lib.hid (fun p hp => by
                  rcases List.mem_append.1 hp with hp | hp
                  · exact HSM.out p hp
                  · rw [List.mem_singleton.1 hp, hos]; omega)
                have hll2 : (l ++ [own]).length ≤ i + 1 := by simp; omega
                have HSI := Lib.hid (refSize_own R1 (fun p hp => Nat.le_trans (HSM2.out p hp) (by decide)) (by omega))
                have hsb := sizeTo_le (l := l ++ [own]) (fun p hp => Nat.le_trans (HSM2.out p hp) (by decide)) (l ++ [own]).length
                have hsb2 : sizeL (l ++ [own]) ≤ 1 + (l ++ [own]).length * 2000001 := hsb
                generalize sizeL (l ++ [own]) = z at *
                generalize l ++ [own] = l2 at *
                clear hsb HSM
                go_wp2_with fail
                refine HSI.out.mono ?_
                rintro e w4 ⟨rfl, rfl⟩
                clear HSI
                by_cases hz255 : 255 < had + z
                · have hd5 : decide (255 < (had : Int) + (z : Int)) = true := decide_eq_true (by omega)
                  rw [if_pos hz255] at HRI
                  have HE := Lib.hid ((NIL w4 3).out R2 HRI.out.symm)
                  clear HRI FIN NIL R1 R2
                  go_wp2_with fail
                  refine bodyPost_ret (results_tmp4 rfl _ _ _) rfl ?_
                  exact HE.out
                · have hd5 : decide (255 < (had : Int) + (z : Int)) = false := decide_eq_false (by omega)
                  rw [if_neg hz255] at HRI
                  clear FIN NIL
                  go_wp2_with fail
                  go_roundw
                  case rel => exact ⟨i + 1 + n, f, l2, _, by omega, by omega, rfl, by go_num, by omega, HSM2, HRI, R1, R2⟩
                  case measure => simp [intOf]; omega
end Go.Proofs.Yticdpidngmeebaa
/- What the reference's Read of layer 8 tells; plain facts on it. -/
namespace Go.Proofs.Yticdpidngmeebaa
open Go.RowKit
set_option linter.unusedVariables false
set_option maxRecDepth 20000

theorem sizeTo_app (l m : List ByteArray) : ∀ k, k ≤ l.length → sizeTo (l ++ m) k = sizeTo l k
  | 0, _ => rfl
  | k + 1, h => by
    unfold sizeTo
    rw [sizeTo_app l m k (by omega)]
    congr 2
    rw [List.getD_eq_getElem?_getD, List.getD_eq_getElem?_getD, List.getElem?_append_left (by omega)]
theorem sizeTo_app2 (l m : List ByteArray) : ∀ k, sizeTo (l ++ m) (l.length + k) + 1 = sizeL l + sizeTo m k
  | 0 => by
    show sizeTo (l ++ m) l.length + 1 = sizeL l + 1
    rw [sizeTo_app l m l.length (Nat.le_refl _)]
    rfl
  | k + 1 => by
    have ih := sizeTo_app2 l m k
    have e1 : sizeTo (l ++ m) (l.length + (k + 1)) = sizeTo (l ++ m) (l.length + k) + 1 + ((l ++ m).getD (l.length + k) ⟨#[]⟩).size := rfl
    have e2 : sizeTo m (k + 1) = sizeTo m k + 1 + (m.getD k ⟨#[]⟩).size := rfl
    have e3 : (l ++ m).getD (l.length + k) ⟨#[]⟩ = m.getD k ⟨#[]⟩ := by
      rw [List.getD_eq_getElem?_getD, List.getD_eq_getElem?_getD, List.getElem?_append_right (by omega)]
      congr 2
      omega
    rw [e1, e2, e3]
    omega
/-- How many bytes two rows of labels have. -/
theorem sizeL_app (l m : List ByteArray) : sizeL (l ++ m) + 1 = sizeL l + sizeL m := by
  have := sizeTo_app2 l m m.length
  unfold sizeL at this ⊢
  rw [List.length_append]
  exact this
theorem sizeTo_pos (l : List ByteArray) : ∀ k, 1 + k ≤ sizeTo l k
  | 0 => Nat.le_refl _
  | k + 1 => by have := sizeTo_pos l k; unfold sizeTo; omega
theorem sizeL_pos (l : List ByteArray) : 1 + l.length ≤ sizeL l := sizeTo_pos l l.length
theorem sizeTo_mono (l : List ByteArray) (k : Nat) : ∀ m, sizeTo l k ≤ sizeTo l (k + m)
  | 0 => Nat.le_refl _
  | m + 1 => by
    have h := sizeTo_mono l k m
    have e : sizeTo l (k + (m + 1)) = sizeTo l (k + m) + 1 + (l.getD (k + m) ⟨#[]⟩).size := rfl
    omega
/-- A label is shorter than all. -/
theorem piece_le (l : List ByteArray) : ∀ p ∈ l, p.size ≤ sizeL l := by
  intro p hp
  obtain ⟨k, hk, rfl⟩ := List.getElem_of_mem hp
  have h1 := sizeTo_mono l (k + 1) (l.length - (k + 1))
  rw [show k + 1 + (l.length - (k + 1)) = l.length by omega] at h1
  have e : sizeTo l (k + 1) = sizeTo l k + 1 + (l.getD k ⟨#[]⟩).size := rfl
  have e2 : l.getD k ⟨#[]⟩ = l[k] := by rw [List.getD_eq_getElem?_getD, List.getElem?_eq_getElem hk]; rfl
  rw [e2] at e
  unfold sizeL
  omega
theorem joinTo_size (l : List ByteArray) : ∀ k, (joinTo l ⟨#[46]⟩ k).size + (if k = 0 then 1 else 2) ≤ sizeTo l k
  | 0 => Nat.le_refl _
  | k + 1 => by
    have h := joinTo_size l k
    have e : (joinTo l ⟨#[46]⟩ (k + 1)).size = (if 0 < k then (joinTo l ⟨#[46]⟩ k).size + 1 else (joinTo l ⟨#[46]⟩ k).size) + (l.getD k ⟨#[]⟩).size := by
      rw [joinTo, ByteArray.size_append]
      split
      · rw [ByteArray.size_append]; rfl
      · rfl
    have e2 : sizeTo l (k + 1) = sizeTo l k + 1 + (l.getD k ⟨#[]⟩).size := rfl
    rw [e, e2, if_neg (Nat.succ_ne_zero k)]
    split at h <;> split <;> omega
/-- A name is shorter than its bytes. -/
theorem joinB_size (l : List ByteArray) : (joinB l ⟨#[46]⟩).size ≤ sizeL l := by
  have := joinTo_size l l.length
  unfold joinB sizeL
  split at this <;> omega
/-- What Run tells of bytes where it tells no error. -/
theorem runB_ok (bs : List UInt8) (had : Nat) : ∀ f i l l2 e p, runB bs had f i l = (l2, e, p, 0) → had + sizeL l ≤ 255 →
    had + sizeL l2 ≤ 255 ∧ i ≤ e ∧ e < bs.length ∧ (p = true → 192 ≤ (bs.getD e 0).toNat)
  | 0, i, l, l2, e, p, h, _ => by unfold runB at h; cases h
  | f + 1, i, l, l2, e, p, h, hl => by
    unfold runB at h
    by_cases h1 : bs.length ≤ i
    · rw [if_pos h1] at h; cases h
    rw [if_neg h1] at h
    by_cases h2 : (bs.getD i 0).toNat = 0
    · rw [if_pos h2] at h
      obtain ⟨rfl, rfl, rfl⟩ : l = l2 ∧ i = e ∧ false = p := by simpa using h
      exact ⟨hl, Nat.le_refl _, by omega, fun h => by cases h⟩
    rw [if_neg h2] at h
    by_cases h3 : 192 ≤ (bs.getD i 0).toNat
    · rw [if_pos h3] at h
      obtain ⟨rfl, rfl, rfl⟩ : l = l2 ∧ i = e ∧ true = p := by simpa using h
      exact ⟨hl, Nat.le_refl _, by omega, fun _ => h3⟩
    rw [if_neg h3] at h
    by_cases h4 : 63 < (bs.getD i 0).toNat ∨ bs.length < i + 1 + (bs.getD i 0).toNat
    · rw [if_pos h4] at h; cases h
    rw [if_neg h4] at h
    by_cases h5 : has8 (ownAt bs i (bs.getD i 0).toNat) 46 = true
    · rw [if_pos h5] at h; cases h
    rw [if_neg h5] at h
    by_cases h6 : 255 < had + sizeL (l ++ [ownAt bs i (bs.getD i 0).toNat])
    · rw [if_pos h6] at h; cases h
    rw [if_neg h6] at h
    obtain ⟨a1, a2, a3, a4⟩ := runB_ok bs had f _ _ l2 e p h (by omega)
    exact ⟨a1, by omega, a3, a4⟩
/-- Where a pointer leads. -/
def toAt (bs : List UInt8) (e : Nat) : Nat := ((bs.getD e 0).toNat - 192) * 256 + (bs.getD (e + 1) 0).toNat
/-- What Read tells: the name, where what stands behind it begins, the error. -/
def readB (bs : List UInt8) : Nat → Nat → List ByteArray → Option Nat → ByteArray × Nat × Int
  | 0, _, _, _ => (⟨#[]⟩, 0, 2)
  | f + 1, i, l, nx =>
    match runB bs (sizeL l - 1) (bs.length + 1 - i) i [] with
    | (l2, e, p, er) =>
      if er ≠ 0 then (⟨#[]⟩, 0, er) else
      if p = false then (joinB (l ++ l2) ⟨#[46]⟩, nx.getD (e + 1), 0) else
      if bs.length ≤ e + 1 then (⟨#[]⟩, 0, 2) else
      if i ≤ toAt bs e then (⟨#[]⟩, 0, 2) else
      readB bs f (toAt bs e) (l ++ l2) (some (nx.getD (e + 2)))
end Go.Proofs.Yticdpidngmeebaa
/- Contract of the reference's Read of layer 8. -/
namespace Go.Proofs.Yticdpidngmeebaa
open Go.RowKit
set_option linter.unusedVariables false
set_option maxRecDepth 20000

theorem own_below8 {w w' : World} {B : Nat} {t : TypeId} {z : Nat} {v : Value} {n : Nat} {xs : List Value} (h : w.ownsRow B t z v n xs) (hb : Below w.heap.size w w') : w'.ownsRow B t z v n xs := by
  obtain ⟨h1, h2⟩ := h
  refine ⟨h1, ?_⟩
  rcases h2 with h2 | ⟨g, cap, cur, e, hB, hg, rest⟩
  · exact .inl h2
  · refine .inr ⟨g, cap, cur, e, hB, ?_, rest⟩
    rw [hb.block g (by
      rcases Nat.lt_or_ge g w.heap.size with h | h
      · exact h
      · rw [Array.getElem?_eq_none h] at hg; cases hg)]
    exact hg
/-- Texts behind a row of texts of one's own. -/
theorem own_more {w0 wr w1 : World} {v v' : Value} {l m : List ByteArray} (hown' : w1.ownsRow w0.heap.size 9 1 v' (l.length + m.length) (l.map Value.string ++ m.map Value.string))
    (hg : wr.grownBy w1 v.ownBlock) (hown : wr.ownsRow w0.heap.size 9 1 v l.length (l.map Value.string)) (hb : Below w0.heap.size w0 wr) :
    w1.ownsRow w0.heap.size 9 1 v' (l ++ m).length ((l ++ m).map Value.string) ∧ Below w0.heap.size w0 w1 := by
  refine ⟨by rw [List.length_append, List.map_append]; exact hown', hb.grown hg hb.size (fun k hk => (hown.lt k hk).1)⟩
def nxI : Option Nat → Int
  | none => -1
  | some n => (n : Int)
/-- One row of texts behind another one, both of one's own. -/
theorem append_own_own {ops : Array Oper} {rest : List Oper} {op : Oper} {a : Act} {w w0 : World} {Q : Exit → Act → World → Prop} {v v2 : Value} {l l2 : List ByteArray} {B2 : Nat} (hown : Hid (w.ownsRow w0.heap.size 9 1 v l.length (l.map Value.string))) (hown2 : Hid (w.ownsRow B2 9 1 v2 l2.length (l2.map Value.string))) (hb : Hid (Below w0.heap.size w0 w)) (hn : Hid (l.length ≤ 10000 ∧ l2.length ≤ 10000)) (s x : Operand) (hg : op.guard = none) (ho : op.op = .call { callee := .builtin .append, args := #[s, x], argTypes := #[68, 68] })
    (hs : a.eval s = v) (hx : a.eval x = v2) (h : ∀ v' W, Hid (W.ownsRow w0.heap.size 9 1 v' (l ++ l2).length ((l ++ l2).map Value.string)) → Hid (Below w0.heap.size w0 W) → wpList Try.prog ops Q rest (a.put op.dst v') W) : wpList Try.prog ops Q (op :: rest) a w := by
  obtain ⟨i0, hi0, hz0, hz1, hz2⟩ := info_parts Try.infoString
  have hnn := hn.out
  rcases hown2.out.2 with ⟨h1, h2⟩ | ⟨g, cap, cur, h1, _⟩
  · have hl2 : l2 = [] := List.eq_nil_of_length_eq_zero h2
    refine wpList_append_own_none hg s x 68 ho w0.heap.size 9 i0 1 Try.underlying68 hi0 v l.length _ hs hown.out (by rw [hx, h1]) ?_
    refine h v w (Lib.hid ?_) hb
    rw [hl2, List.append_nil]
    exact hown.out
  · have hcells : ∀ j u, (l2.map Value.string)[j]? = some u → w.cell? ((⟨g, 0, none⟩ : Addr).add j) = some u := by
      intro j u hu
      have hj : j < l2.length := by
        have := (List.getElem?_eq_some_iff.1 hu).1
        simpa using this
      have := own_cells (g := g) (n := l2.length) (c := cap) (B := B2) (l := l2) (by have := hown2.out; rw [h1] at this; exact this) j hj
      rw [add_none, this, ← hu]
      simp [hj]
    refine wpList_append_own _ hg s x 68 ho w0.heap.size 9 i0 _ 1 16 Try.underlying68 hi0 hz0 hz1 hz2 rfl (by decide) v l.length _ hs hown.out ⟨g, 0, none⟩ l2.length cap (l2.map Value.string) (by rw [hx, h1]) (by simp) hcells (fun u hu => by
        obtain ⟨q, _, rfl⟩ := List.mem_map.1 hu
        rfl) (by unfold maxLen; omega) (by omega) hb.out.size ?_
    intro v' w1 ho' hgr _
    have R := own_more ho' hgr hown.out hb.out
    exact h v' w1 (Lib.hid R.1) (Lib.hid R.2)
set_option maxRecDepth 100000 in
set_option maxHeartbeats 4000000 in
theorem refRead_any (a : Option Addr) (cap : Nat) (bs : List UInt8) (at0 : Nat) (w : World) (hB : BytesIn w a cap bs) (hat : at0 ≤ bs.length) (hbl : bs.length ≤ 100000) :
    Calls Try.prog 48 #[.slice a bs.length cap, .int .i64 (at0 : Int)] w fun e w' => e = .returned (.tuple #[.string (readB bs (at0 + 1) at0 [] none).1, .int .i64 (((readB bs (at0 + 1) at0 [] none).2.1 : Nat) : Int), .int .i64 (readB bs (at0 + 1) at0 [] none).2.2]) ∧ Below w.heap.size w w' := by
  have HBI := Lib.hid hB
  obtain ⟨R, hR⟩ : ∃ R, readB bs (at0 + 1) at0 [] none = R := ⟨_, rfl⟩
  have HR := Lib.hid hR
  rw [hR]
  obtain ⟨N, hN⟩ : ∃ N, bs.length = N := ⟨_, rfl⟩
  have HN := Lib.hid hN
  have HRU := fun W i had (h : BytesIn W a cap bs) h1 h2 => Lib.hid (refRun_any a cap bs i had W h h1 h2 hbl)
  rw [hN] at HRU hat hbl ⊢
  clear hB hR hN
  have FIN : ∀ (wr : World) (s : ByteArray) (nx : Nat) (er : Int), Hid (Below w.heap.size w wr → R = (s, nx, er) → (Ending.returned (.tuple #[.string s, .int .i64 (nx : Int), .int .i64 er]) = Ending.returned (.tuple #[.string R.1, .int .i64 ((R.2.1 : Nat) : Int), .int .i64 R.2.2]) ∧ Below w.heap.size w wr)) := fun wr s nx er => Lib.hid (fun h1 h2 => by
    rw [h2]; exact ⟨rfl, h1⟩)
  go_enter Try.func48, Try.ntmps48
  go_wp2_with fail
  go_loopw [1, 7, 8] (fun s1 s7 s8 wr => ∃ (i f : Nat) (l : List ByteArray) (v : Value) (nx : Option Nat), i ≤ N ∧ i + 1 ≤ f ∧ v = s7 ∧ s1 = .int .i64 (i : Int) ∧ s8 = .int .i64 (nxI nx) ∧ nxI nx ≤ (N : Int) + 2 ∧ Hid (-1 ≤ nxI nx) ∧ Hid (sizeL l ≤ 255) ∧ Hid (readB bs f i l nx = R) ∧ Hid (wr.ownsRow w.heap.size 9 1 v l.length (l.map Value.string)) ∧ Hid (Below w.heap.size w wr)) (fun s1 _ _ _ => (intOf s1).toNat)
  case atStart => exact ⟨at0, at0 + 1, [], _, none, hat, Nat.le_refl _, rfl, rfl, rfl, by show (-1 : Int) ≤ _; omega, Lib.hid (Int.le_refl _), Lib.hid (by decide), HR, Lib.hid (World.ownsRow_nil _ _ _ _), Lib.hid (Below.refl _ _)⟩
  case round =>
    clear HR
    obtain ⟨i, f0, l, v, nx, hi, hif, rfl, rfl, rfl, hnx, HNX, HSZ, HRI, HO, HB⟩ := hrel
    obtain ⟨f, rfl⟩ : ∃ f, f0 = f + 1 := ⟨f0 - 1, by omega⟩
    have hsz := HSZ.out
    have hsp := sizeL_pos l
    have hll : l.length ≤ 254 := by omega
    have HSI := Lib.hid (refSize_own HO.out (fun p hp => Nat.le_trans (piece_le l p hp) (by omega)) (by omega))
    have HRN := HRU wr i (sizeL l - 1) (HBI.out.below HB.out) hi (by omega)
    have HRB : Hid (readB bs (f + 1) i l nx = match runB bs (sizeL l - 1) (bs.length + 1 - i) i [] with
      | (l2, e, p, er) =>
        if er ≠ 0 then (⟨#[]⟩, 0, er) else
        if p = false then (joinB (l ++ l2) ⟨#[46]⟩, nx.getD (e + 1), 0) else
        if bs.length ≤ e + 1 then (⟨#[]⟩, 0, 2) else
        if i ≤ toAt bs e then (⟨#[]⟩, 0, 2) else
        readB bs f (toAt bs e) (l ++ l2) (some (nx.getD (e + 2)))) := Lib.hid rfl
    rw [HRI.out, HN.out] at HRB
    have HOK := Lib.hid (runB_ok bs (sizeL l - 1) (N + 1 - i) i [])
    generalize runB bs (sizeL l - 1) (N + 1 - i) i [] = r at *
    obtain ⟨l2, e, p, er⟩ := r
    simp only at HRB
    have HAP := Lib.hid (sizeL_app l l2)
    have hz1 : IntKind.i64.wrap (((sizeL l : Nat) : Int) - 1) = (((sizeL l - 1 : Nat) : Nat) : Int) := by rw [IntKind.wrap_i64]; omega
    have HZ : Hid (sizeL l = (sizeL l - 1) + 1) := Lib.hid (by omega)
    obtain ⟨z, hz⟩ : ∃ z, sizeL l = z + 1 := ⟨sizeL l - 1, by omega⟩
    rw [hz] at HSI HRN hz1 HOK HAP hsz HZ
    rw [Nat.add_sub_cancel] at HRN hz1 HOK
    have hzi : ((z + 1 : Nat) : Int) - 1 = (z : Int) := by omega
    clear hz HZ HSZ hsp HRI
    have hwz := HB.out.size
    go_wp2_with fail
    refine HSI.out.mono ?_
    rintro e1 w2 ⟨rfl, rfl⟩
    clear HSI
    go_wp2_with fail
    refine HRN.out.mono ?_
    rintro e1 w3 ⟨v2, rfl, hown2, hb3⟩
    have HO2 := Lib.hid hown2
    have HB3 := Lib.hid (chain HB.out hb3)
    have HO3 := Lib.hid (own_below8 HO.out hb3)
    clear hown2 hb3 HRN HO HB hz1 hzi
    by_cases her : er = 0
    · subst her
      rw [if_neg (fun h => h rfl)] at HRB
      obtain ⟨hk1, hk2, hk3, hk4⟩ := HOK.out l2 e p rfl (by show z + 1 ≤ 255; omega)
      have HK4 := Lib.hid hk4
      rw [HN.out] at hk3
      have HSZ2 : Hid (sizeL (l ++ l2) ≤ 255) := Lib.hid (by have := HAP.out; omega)
      have hl2 : l2.length ≤ 255 := by have := sizeL_pos l2; omega
      have HLL : Hid (l.length ≤ 10000 ∧ l2.length ≤ 10000) := Lib.hid (by omega)
      clear HOK HAP hk4
      go_upto_region 7 with (at_builtin; refine append_own_own HO3 HO2 HB3 HLL _ _ rfl rfl rfl rfl (fun v3 W3 HO4 HB4 => ?_))
      clear HO3 HO2 HB3 HLL
      generalize l ++ l2 = l3 at *
      have hl3 : l3.length ≤ 255 := by have := sizeL_pos l3; have := HSZ2.out; omega
      cases p with
      | false =>
        rw [if_pos rfl] at HRB
        have hj3 := joinB_size l3
        have HJO := Lib.hid (join_own HO4.out (by omega) (by have := HSZ2.out; omega))
        generalize joinB l3 ⟨#[46]⟩ = J at *
        rcases nx with _ | m
        · have hnn : nxI none = -1 := rfl
          rw [hnn]
          have HE := Lib.hid ((FIN W3 J (e + 1) 0).out HB4.out HRB.out)
          have hcast : (((e + 1 : Nat) : Nat) : Int) = (e : Int) + 1 := by omega
          rw [hcast] at HE
          clear HRB FIN HO4 HB4 hnn hnx hcast
          go_wp2_with fail
          refine HJO.out.mono ?_
          rintro e1 w5 ⟨rfl, rfl⟩
          clear HJO
          go_wp2_with fail
          go_ret3
          exact HE.out
        · have hnn : nxI (some m) = (m : Int) := rfl
          rw [hnn]
          have hd8 : decide ((m : Int) < 0) = false := decide_eq_false (by omega)
          have HE := Lib.hid ((FIN W3 J m 0).out HB4.out HRB.out)
          clear HRB FIN HO4 HB4 hnn hnx
          go_wp2_with fail
          refine HJO.out.mono ?_
          rintro e1 w5 ⟨rfl, rfl⟩
          clear HJO
          go_wp2_with fail
          go_ret3
          exact HE.out
      | true =>
        rw [if_neg (by decide)] at HRB
        by_cases hlast : N ≤ e + 1
        · have hd11 : decide ((N : Int) ≤ (e : Int) + 1) = true := decide_eq_true (by omega)
          rw [if_pos hlast] at HRB
          have HE := Lib.hid ((FIN W3 ⟨#[]⟩ 0 2).out HB4.out HRB.out)
          clear HRB FIN HO4 HB4
          go_wp2_with fail
          go_ret3
          exact HE.out
        · have hd11 : decide ((N : Int) ≤ (e : Int) + 1) = false := decide_eq_false (by omega)
          rw [if_neg hlast] at HRB
          obtain ⟨hc1, hc2, hrow⟩ := HBI.out
          have hcm : cap ≤ 9223372036854775807 := by unfold maxLen at hc2; omega
          rcases hrow with h0 | ⟨x, rfl, hcells⟩
          · rw [HN.out] at h0; omega
          have he1 : e < bs.length := by rw [HN.out]; exact hk3
          have he2 : e + 1 < bs.length := by rw [HN.out]; omega
          have hg1 : bs.getD e 0 = bs[e] := by rw [List.getD_eq_getElem?_getD, List.getElem?_eq_getElem he1]; rfl
          have hg2 : bs.getD (e + 1) 0 = bs[e + 1] := by rw [List.getD_eq_getElem?_getD, List.getElem?_eq_getElem he2]; rfl
          have h192 := HK4.out rfl
          have HTO : Hid (toAt bs e = (bs[e].toNat - 192) * 256 + bs[e + 1].toNat) := Lib.hid (by unfold toAt; rw [hg1, hg2])
          rw [hg1] at h192
          have hu1 := bs[e].toNat_lt
          have hu2 := bs[e + 1].toNat_lt
          have CK : Hid (W3.drew.cell? (x.add e) = some (.int .u8 ((bs[e].toNat : Nat) : Int)) ∧ W3.drew.cell? (x.add (e + 1)) = some (.int .u8 ((bs[e + 1].toNat : Nat) : Int))) := Lib.hid ⟨(HB4.out.cell (p := x.add e) (World.block_lt_of_cell? w _ (hcells e he1))).trans (hcells e he1), (HB4.out.cell (p := x.add (e + 1)) (World.block_lt_of_cell? w _ (hcells (e + 1) he2))).trans (hcells (e + 1) he2)⟩
          generalize bs[e].toNat = q1 at *
          generalize bs[e + 1].toNat = q2 at *
          generalize toAt bs e = T at *
          have hT : T ≤ 16383 := by rw [HTO.out]; omega
          have HTI : Hid (((q1 : Int) - 192) * 256 + (q2 : Int) = (T : Int)) := Lib.hid (by rw [HTO.out]; omega)
          clear hg1 hg2 he1 he2 hcells HK4 HTO hc1 hc2
          have hw1 : IntKind.i64.wrap ((e : Int) + 1) = (e : Int) + 1 := by rw [IntKind.wrap_i64]; omega
          have hw2 : IntKind.i64.wrap ((q1 : Int) - 192) = (q1 : Int) - 192 := by rw [IntKind.wrap_i64]; omega
          have hw3 : IntKind.i64.wrap (((q1 : Int) - 192) * 256) = ((q1 : Int) - 192) * 256 := by rw [IntKind.wrap_i64]; omega
          have hw4 : IntKind.i64.wrap (((q1 : Int) - 192) * 256 + (q2 : Int)) = ((q1 : Int) - 192) * 256 + (q2 : Int) := by rw [IntKind.wrap_i64]; omega
          have hb1 : (0 : Int) ≤ (e : Int) := by omega
          have hb2 : (e : Int) < (N : Int) := by omega
          have hb3 : (0 : Int) ≤ (e : Int) + 1 := by omega
          have hb4 : (e : Int) + 1 < (N : Int) := by omega
          go_upto_region 13 with fail
          obtain ⟨S, hS⟩ : ∃ S : World → Prop, (fun W => W.cell? (x.add e) = some (.int .u8 ((q1 : Nat) : Int)) ∧ W.cell? (x.add (e + 1)) = some (.int .u8 ((q2 : Nat) : Int)) ∧ W = W3.drew) = S := ⟨_, rfl⟩
          have C1 : Hid (∀ w', S w' → w'.cell? (x.add e) = some (.int .u8 ((q1 : Nat) : Int))) := Lib.hid (fun w' h => by rw [← hS] at h; exact h.1)
          have C2 : Hid (∀ w', S w' → w'.cell? ⟨x.block, x.off + (e + 1), none⟩ = some (.int .u8 ((q2 : Nat) : Int))) := Lib.hid (fun w' h => by rw [← hS] at h; have := h.2.1; rwa [show x.add (e + 1) = ⟨x.block, x.off + (e + 1), none⟩ from by simp [Addr.add]] at this)
          have HSS : Hid (S W3.drew) := Lib.hid (by rw [← hS]; exact ⟨CK.out.1, CK.out.2, rfl⟩)
          clear hS CK
          refine wp_region_noPanic ?_
          refine wp_region_held_drew (S := S) (by kernel_rfl) HSS.out (fun hHeld => ?_)
          refine wpAnyH_take (i := 0) (v := ?_) rfl (by kernel_rfl) (by kernel_rfl) (by kernel_rfl) (fun _ _ _ h => h) (Or.inl ⟨by rfl, ?_⟩) (by assumption) ?_
          rotate_left
          · (intro w hSw; go_simp; try (with_reducible rfl))
          try simp only [Act.put, List.getElem_toArray, List.getElem_cons_zero, List.setIfInBounds_toArray, List.set_cons_zero, List.set_cons_succ]
          refine wpAnyH_take (i := 1) (v := ?_) rfl (by kernel_rfl) (by kernel_rfl) (by kernel_rfl) (fun _ _ _ h => h) (Or.inl ⟨by rfl, ?_⟩) (by assumption) ?_
          rotate_left
          · (intro w hSw; go_simp; try (with_reducible rfl))
          try simp only [Act.put, List.getElem_toArray, List.getElem_cons_zero, List.getElem_cons_succ, List.setIfInBounds_toArray, List.set_cons_zero, List.set_cons_succ]
          refine wpAnyH_take (i := 2) (v := ?_) rfl (by kernel_rfl) (by kernel_rfl) (by kernel_rfl) (fun _ _ _ h => h) (Or.inl ⟨by rfl, ?_⟩) (by assumption) ?_
          rotate_left
          · (intro w hSw; go_simp; try (with_reducible rfl))
          try simp only [Act.put, List.getElem_toArray, List.getElem_cons_zero, List.getElem_cons_succ, List.setIfInBounds_toArray, List.set_cons_zero, List.set_cons_succ]
          refine wpAnyH_take (i := 3) (v := ?_) rfl (by kernel_rfl) (by kernel_rfl) (by kernel_rfl) (fun _ _ _ h => h) (Or.inl ⟨by rfl, ?_⟩) (by assumption) ?_
          rotate_left
          · (intro w hSw; have hc0 := C1.out w hSw; go_simp; try (with_reducible rfl))
          try simp only [Act.put, List.getElem_toArray, List.getElem_cons_zero, List.getElem_cons_succ, List.setIfInBounds_toArray, List.set_cons_zero, List.set_cons_succ]
          refine wpAnyH_take (i := 4) (v := ?_) rfl (by kernel_rfl) (by kernel_rfl) (by kernel_rfl) (fun _ _ _ h => h) (Or.inl ⟨by rfl, ?_⟩) (by assumption) ?_
          rotate_left
          · (intro w hSw; go_simp; try (with_reducible rfl))
          try simp only [Act.put, List.getElem_toArray, List.getElem_cons_zero, List.getElem_cons_succ, List.setIfInBounds_toArray, List.set_cons_zero, List.set_cons_succ]
          refine wpAnyH_take (i := 5) (v := ?_) rfl (by kernel_rfl) (by kernel_rfl) (by kernel_rfl) (fun _ _ _ h => h) (Or.inl ⟨by rfl, ?_⟩) (by assumption) ?_
          rotate_left
          · (intro w hSw; go_simp; try (with_reducible rfl))
          try simp only [Act.put, List.getElem_toArray, List.getElem_cons_zero, List.getElem_cons_succ, List.setIfInBounds_toArray, List.set_cons_zero, List.set_cons_succ]
          refine wpAnyH_take (i := 6) (v := ?_) rfl (by kernel_rfl) (by kernel_rfl) (by kernel_rfl) (fun _ _ _ h => h) (Or.inl ⟨by rfl, ?_⟩) (by assumption) ?_
          rotate_left
          · (intro w hSw; go_simp; try (with_reducible rfl))
          try simp only [Act.put, List.getElem_toArray, List.getElem_cons_zero, List.getElem_cons_succ, List.setIfInBounds_toArray, List.set_cons_zero, List.set_cons_succ]
          refine wpAnyH_take (i := 7) (v := ?_) rfl (by kernel_rfl) (by kernel_rfl) (by kernel_rfl) (fun _ _ _ h => h) (Or.inl ⟨by rfl, ?_⟩) (by assumption) ?_
          rotate_left
          · (intro w hSw; go_simp; try (with_reducible rfl))
          try simp only [Act.put, List.getElem_toArray, List.getElem_cons_zero, List.getElem_cons_succ, List.setIfInBounds_toArray, List.set_cons_zero, List.set_cons_succ]
          refine wpAnyH_take (i := 8) (v := ?_) rfl (by kernel_rfl) (by kernel_rfl) (by kernel_rfl) (fun _ _ _ h => h) (Or.inl ⟨by rfl, ?_⟩) (by assumption) ?_
          rotate_left
          · (intro w hSw; go_simp; try (with_reducible rfl))
          try simp only [Act.put, List.getElem_toArray, List.getElem_cons_zero, List.getElem_cons_succ, List.setIfInBounds_toArray, List.set_cons_zero, List.set_cons_succ]
          refine wpAnyH_take (i := 9) (v := ?_) rfl (by kernel_rfl) (by kernel_rfl) (by kernel_rfl) (fun _ _ _ h => h) (Or.inl ⟨by rfl, ?_⟩) (by assumption) ?_
          rotate_left
          · (intro w hSw; go_simp; try (with_reducible rfl))
          try simp only [Act.put, List.getElem_toArray, List.getElem_cons_zero, List.getElem_cons_succ, List.setIfInBounds_toArray, List.set_cons_zero, List.set_cons_succ]
          refine wpAnyH_take (i := 10) (v := ?_) rfl (by kernel_rfl) (by kernel_rfl) (by kernel_rfl) (fun _ _ _ h => h) (Or.inl ⟨by rfl, ?_⟩) (by assumption) ?_
          rotate_left
          · (intro w hSw; go_simp; try (with_reducible rfl))
          try simp only [Act.put, List.getElem_toArray, List.getElem_cons_zero, List.getElem_cons_succ, List.setIfInBounds_toArray, List.set_cons_zero, List.set_cons_succ]
          refine wpAnyH_take (i := 11) (v := ?_) rfl (by kernel_rfl) (by kernel_rfl) (by kernel_rfl) (fun _ _ _ h => h) (Or.inl ⟨by rfl, ?_⟩) (by assumption) ?_
          rotate_left
          · (intro w hSw; have hc0 := C2.out w hSw; go_simp; try (with_reducible rfl))
          try simp only [Act.put, List.getElem_toArray, List.getElem_cons_zero, List.getElem_cons_succ, List.setIfInBounds_toArray, List.set_cons_zero, List.set_cons_succ]
          refine wpAnyH_take (i := 12) (v := ?_) rfl (by kernel_rfl) (by kernel_rfl) (by kernel_rfl) (fun _ _ _ h => h) (Or.inl ⟨by rfl, ?_⟩) (by assumption) ?_
          rotate_left
          · (intro w hSw; go_simp; try (with_reducible rfl))
          try simp only [Act.put, List.getElem_toArray, List.getElem_cons_zero, List.getElem_cons_succ, List.setIfInBounds_toArray, List.set_cons_zero, List.set_cons_succ]
          refine wpAnyH_take (i := 13) (v := ?_) rfl (by kernel_rfl) (by kernel_rfl) (by kernel_rfl) (fun _ _ _ h => h) (Or.inl ⟨by rfl, ?_⟩) (by assumption) ?_
          rotate_left
          · (intro w hSw; go_simp; try (with_reducible rfl))
          try simp only [Act.put, List.getElem_toArray, List.getElem_cons_zero, List.getElem_cons_succ, List.setIfInBounds_toArray, List.set_cons_zero, List.set_cons_succ]
          refine wpAnyH_take (i := 14) (v := ?_) rfl (by kernel_rfl) (by kernel_rfl) (by kernel_rfl) (fun _ _ _ h => h) (Or.inl ⟨by rfl, ?_⟩) (by assumption) ?_
          rotate_left
          · (intro w hSw; go_simp; try (with_reducible rfl))
          try simp only [Act.put, List.getElem_toArray, List.getElem_cons_zero, List.getElem_cons_succ, List.setIfInBounds_toArray, List.set_cons_zero, List.set_cons_succ]
          refine wpAnyH_done (by kernel_rfl) ?_ _
          refine NoPanic.normal ?_
          have HB5 : Hid (Below w.heap.size w W3.drew) := Lib.hid HB4.out.drew
          have HO5 : Hid (W3.drew.ownsRow w.heap.size 9 1 v3 l3.length (l3.map Value.string)) := HO4
          clear HO4 HB4 hHeld HSS C1 C2
          generalize W3.drew = V at *
          have hq1w : IntKind.i64.wrap (q1 : Int) = (q1 : Int) := by rw [IntKind.wrap_i64]; omega
          have hq2w : IntKind.i64.wrap (q2 : Int) = (q2 : Int) := by rw [IntKind.wrap_i64]; omega
          have hwT : IntKind.i64.wrap (T : Int) = (T : Int) := by rw [IntKind.wrap_i64]; omega
          simp only [hq1w, hq2w, hw2, hw3, HTI.out, hwT]
          clear hw1 hw2 hw3 hw4 HTI hq1w hq2w hwT
          by_cases hto : i ≤ T
          · have hd16 : decide ((i : Int) ≤ (T : Int)) = true := decide_eq_true (by omega)
            have hd16n : decide (i ≤ T) = true := decide_eq_true hto
            rw [if_pos hto] at HRB
            have HE := Lib.hid ((FIN V ⟨#[]⟩ 0 2).out HB5.out HRB.out)
            clear HRB FIN HO5 HB5
            rcases nx with _ | m
            · have hnn : nxI none = -1 := rfl
              rw [hnn]
              clear hnn hnx
              go_wp2_with fail
              go_ret3
              exact HE.out
            · have hnn : nxI (some m) = (m : Int) := rfl
              rw [hnn]
              have hd8 : decide ((m : Int) < 0) = false := decide_eq_false (by omega)
              clear hnn hnx
              go_wp2_with fail
              go_ret3
              exact HE.out
          · have hd16 : decide ((i : Int) ≤ (T : Int)) = false := decide_eq_false (by omega)
            have hd16n : decide (i ≤ T) = false := decide_eq_false hto
            rw [if_neg hto] at HRB
            have HRR := Lib.hid HRB.out.symm
            clear HRB FIN
            rcases nx with _ | m
            · have hnn : nxI none = -1 := rfl
              rw [hnn]
              clear hnn hnx HNX
              go_wp2_with fail
              go_roundw
              case rel => exact ⟨T, f, l3, v3, some (e + 2), by omega, by omega, rfl, rfl, by show _ = Value.int .i64 (((e + 2 : Nat) : Nat) : Int); congr 1, by show (((e + 2 : Nat) : Nat) : Int) ≤ _; omega, Lib.hid (by show (-1 : Int) ≤ (((e + 2 : Nat) : Nat) : Int); omega), HSZ2, HRR, HO5, HB5⟩
              case measure => simp [intOf]; omega
            · have hnn : nxI (some m) = (m : Int) := rfl
              rw [hnn] at hnx ⊢
              have hd8 : decide ((m : Int) < 0) = false := decide_eq_false (by omega)
              clear hnn
              go_wp2_with fail
              go_roundw
              case rel => exact ⟨T, f, l3, v3, some m, by omega, by omega, rfl, rfl, rfl, hnx, HNX, HSZ2, HRR, HO5, HB5⟩
              case measure => simp [intOf]; omega
    · have hern : (er != 0) = true := by rw [bne_iff_ne]; exact her
      rw [if_pos her] at HRB
      have HE := Lib.hid ((FIN w3 ⟨#[]⟩ 0 er).out HB3.out HRB.out)
      clear HRB FIN HO2 HO3 HB3 HOK HAP
      go_wp2_with fail
      go_ret3
      exact HE.out
end Go.Proofs.Yticdpidngmeebaa
/- Contract of the reference's find of layer 8. -/
namespace Go.Proofs.Yticdpidngmeebaa
open Go.RowKit
set_option linter.unusedVariables false
set_option maxRecDepth 20000

/-- Numbers, ats cells. -/
def intsL (l : List Nat) : List Value := l.map fun n => Value.int .i64 ((n : Nat) : Int)
theorem Try.infoInt8 : (Try.prog.info? 3).map (fun i => (i.zero, i.size, i.bytes)) = some (some (.int .i64 0), 1, 8) := by kernel_rfl
/-- Where a name first began. -/
def find8 : List ByteArray → List Nat → ByteArray → Option Nat
  | n :: ns, a :: ats, x => if n = x then some a else find8 ns ats x
  | _, _, _ => none
theorem find8_at : ∀ (ns : List ByteArray) (ats : List Nat) (x : ByteArray) (k : Nat) (h : k < ns.length) (h2 : k < ats.length), ns[k] = x → (∀ j (hj : j < ns.length), j < k → ns[j] ≠ x) → find8 ns ats x = some ats[k]
  | [], _, _, _, h, _, _, _ => absurd h (by simp)
  | _ :: _, [], _, _, _, h2, _, _ => absurd h2 (by simp)
  | n :: ns, a :: ats, x, 0, _, _, he, _ => by unfold find8; rw [if_pos (show n = x from he)]; rfl
  | n :: ns, a :: ats, x, k + 1, h, h2, he, hn => by
    unfold find8
    rw [if_neg (show ¬ n = x from hn 0 (by simp) (by omega))]
    exact find8_at ns ats x k (by simpa using h) (by simpa using h2) he (fun j hj hk => hn (j + 1) (by simpa using hj) (by omega))
theorem find8_none : ∀ (ns : List ByteArray) (ats : List Nat) (x : ByteArray), (∀ j (hj : j < ns.length), ns[j] ≠ x) → find8 ns ats x = none
  | [], _, _, _ => by unfold find8; rfl
  | _ :: _, [], _, _ => by unfold find8; rfl
  | n :: ns, a :: ats, x, h => by
    unfold find8
    rw [if_neg (show ¬ n = x from h 0 (by simp))]
    exact find8_none ns ats x (fun j hj => h (j + 1) (by simpa using hj))
theorem find8_mem : ∀ (ns : List ByteArray) (ats : List Nat) (x : ByteArray) (n : Nat), find8 ns ats x = some n → n ∈ ats
  | [], _, _, _, h => by unfold find8 at h; cases h
  | _ :: _, [], _, _, h => by unfold find8 at h; cases h
  | m :: ns, a :: ats, x, n, h => by
    unfold find8 at h
    split at h
    · cases h; simp
    · exact List.mem_cons_of_mem _ (find8_mem ns ats x n h)
/-- A row of one's own of numbers, read. -/
theorem own_nums {w : World} {B : Nat} {v : Value} {l : List Nat} (h : w.ownsRow B 3 1 v l.length (intsL l)) : ∃ a c, v = .slice a l.length c ∧ (l.length = 0 ∨ ∃ g, a = some ⟨g, 0, none⟩ ∧ g < w.heap.size ∧ ∀ k (hk : k < l.length), w.cell? ⟨g, k, none⟩ = some (.int .i64 ((l[k] : Nat) : Int))) := by
  rcases h.2 with ⟨e1, e2⟩ | ⟨g, cap, cur, e1, e2, e3, e4, e5, e6, e7⟩
  · exact ⟨none, 0, by rw [e1, e2], .inl e2⟩
  · refine ⟨_, cap, e1, .inr ⟨g, rfl, ?_, fun k hk => ?_⟩⟩
    · apply Classical.byContradiction
      intro h
      rw [Array.getElem?_eq_none (by omega)] at e3
      cases e3
    · subst e1
      rw [World.ownsRow.cellAt h k (by omega)]
      unfold intsL
      simp [hk]
set_option maxRecDepth 100000 in
set_option maxHeartbeats 2000000 in
theorem refFind8_any (vB vN vA : Value) (ns : List ByteArray) (ats : List Nat) (x : ByteArray) (B B2 : Nat) (w : World) (hN : w.ownsRow B 9 1 vN ns.length (ns.map Value.string)) (hA : w.ownsRow B2 3 1 vA ats.length (intsL ats)) (hl : ats.length = ns.length) (hn : ns.length ≤ 2000000) (hsm : ∀ p ∈ ns, p.size ≤ 2000000) (hx : x.size ≤ 2000000) :
    Calls Try.prog 62 #[.agg #[vB, vN, vA], .string x] w fun e w' => e = .returned (.int .i64 (nxI (find8 ns ats x))) ∧ Below w.heap.size w w' := by
  obtain ⟨W, hW⟩ : ∃ W, w.alloc (.cells #[vB, vN, vA] 70) = W := ⟨_, rfl⟩
  have HB : Hid (Below w.heap.size w W) := Lib.hid (by rw [← hW]; exact (Below.refl _ _).alloc (Nat.le_refl _) _)
  have hc1 : W.cell? ⟨w.heap.size, 1, none⟩ = some vN := by rw [← hW, World.cell?_alloc_new]; rfl
  have hc2 : W.cell? ⟨w.heap.size, 2, none⟩ = some vA := by rw [← hW, World.cell?_alloc_new]; rfl
  obtain ⟨aN, cN, rfl, hrN⟩ := own_RowS (own_below8 hN HB.out)
  obtain ⟨aA, cA, rfl, hrA⟩ := own_nums (own_below8 hA HB.out)
  rw [hl] at hc2 hW ⊢
  have HRN := Lib.hid hrN
  have HRA := Lib.hid hrA
  have HSM := Lib.hid hsm
  have HLN := Lib.hid hl
  have HAT := Lib.hid (find8_at ns ats x)
  have HNO := Lib.hid (find8_none ns ats x)
  generalize find8 ns ats x = R at *
  obtain ⟨N, hNn⟩ : ∃ N, ns.length = N := ⟨_, rfl⟩
  have HNN := Lib.hid hNn
  rw [hNn] at hn hc1 hc2 hW ⊢
  clear hN hA hl hsm hrN hrA hNn
  go_enter Try.func62, Try.ntmps62
  go_upto_region 1 with fail
  first | rw [hW] | skip
  clear hW
  go_wp2_with fail
  go_loop [5] (fun i => ∃ k : Nat, k ≤ N ∧ i = .int .i64 (k : Int) ∧ Hid (∀ j (hj : j < ns.length), j < k → ns[j] ≠ x)) (fun i => N - (intOf i).toNat)
  case atStart => exact ⟨0, Nat.zero_le _, rfl, Lib.hid (fun j hj h => absurd h (by omega))⟩
  case round =>
    obtain ⟨k, hk, rfl, HO⟩ := hrel
    by_cases hkN : k < N
    · have hd : decide ((k : Int) < (N : Int)) = true := decide_eq_true (by omega)
      have hdn : decide (k < N) = true := decide_eq_true hkN
      have hkl : k < ns.length := by rw [HNN.out]; exact hkN
      have hka : k < ats.length := by rw [HLN.out]; exact hkl
      rcases HRN.out with hrow | h0
      · rcases hrow with ⟨_, _, h0⟩ | ⟨g, rfl, h⟩
        · rw [h0] at hkl; exact absurd hkl (by simp)
        rcases HRA.out with h0 | ⟨g2, rfl, _, h2⟩
        · omega
        have hcN := h.cells k hkl
        rw [List.getD_eq_getElem?_getD, List.getElem?_eq_getElem hkl] at hcN
        have hcA := h2 k hka
        have hz := HSM.out _ (List.getElem_mem hkl)
        have HAK : Hid (ns[k] = x → R = some ats[k]) := Lib.hid (fun e => HAT.out k hkl hka e HO.out)
        have HO2 : Hid (ns[k] ≠ x → ∀ j (hj : j < ns.length), j < k + 1 → ns[j] ≠ x) := Lib.hid (fun e j hj hjk => by
          by_cases h : j < k
          · exact HO.out j hj h
          · obtain rfl : j = k := by omega
            exact e)
        simp only [Option.getD_some] at hcN
        generalize ns[k] = p at *
        generalize ats[k] = q at *
        have hb1 : (0 : Int) ≤ (k : Int) := by omega
        have hb2 : (k : Int) < (N : Int) := by omega
        clear h h2 hkl hka HRN HRA HAT
        by_cases he : p = x
        · have hbe : (p.toList == x.toList) = true := by rw [he]; simp
          have ER := HAK.out he
          subst ER
          subst he
          clear HAK HO2 HO
          go_wp2_with fail
          go_ret
          exact ⟨rfl, HB.out⟩
        · have hbe : (p.toList == x.toList) = false := by
            rw [beq_eq_false_iff_ne]
            intro h
            rw [ByteArray.toList_eq, ByteArray.toList_eq] at h
            exact he (ByteArray.ext (Array.ext' h))
          have HO3 := Lib.hid (HO2.out he)
          clear HAK HO2 HO he
          go_wp2_with fail
          go_round
          case rel => exact ⟨k + 1, by omega, by go_num, HO3⟩
          case measure => simp [intOf]; omega
      · rw [h0] at hkl; exact absurd hkl (by simp)
    · obtain rfl : k = N := by omega
      have hd : decide ((k : Int) < (k : Int)) = false := by simp
      have ER := HNO.out (fun j hj => HO.out j hj (by rw [← HNN.out]; exact hj))
      subst ER
      clear HO HNO HAT HRN HRA
      go_wp2_with fail
      go_ret
      exact ⟨rfl, HB.out⟩
end Go.Proofs.Yticdpidngmeebaa
/- The reference's Name of layer 8: what it tells; rows kept beside appends. -/
namespace Go.Proofs.Yticdpidngmeebaa
open Go.RowKit
set_option linter.unusedVariables false
set_option maxRecDepth 20000

/-- What is written when a name is, from its i-th label on: the bytes, the names, their places. -/
def nm8 (s : ByteArray) (L : List ByteArray) : Nat → Nat → List UInt8 → List ByteArray → List Nat → List UInt8 × List ByteArray × List Nat
  | 0, _, l, ns, ats => (l, ns, ats)
  | f + 1, i, l, ns, ats =>
    if L.length ≤ i then (l ++ [0], ns, ats) else
    match find8 ns ats (restB s i) with
    | some n => (l ++ [UInt8.ofNat (192 + n / 256), UInt8.ofNat (n % 256)], ns, ats)
    | none => nm8 s L f (i + 1) (l ++ labL (L.getD i ⟨#[]⟩)) (if l.length < 16384 then ns ++ [restB s i] else ns) (if l.length < 16384 then ats ++ [l.length] else ats)
/-- A row of one's own stays where another block turned. -/
theorem own_kept {w w' : World} {B : Nat} {t : TypeId} {z : Nat} {v : Value} {n : Nat} {xs : List Value} (h : w.ownsRow B t z v n xs) (hk : ∀ g, v.ownBlock = some g → w'.heap[g]? = w.heap[g]?) : w'.ownsRow B t z v n xs := by
  obtain ⟨h1, h2⟩ := h
  refine ⟨h1, ?_⟩
  rcases h2 with h2 | ⟨g, cap, cur, e1, e2, e3, e4⟩
  · exact .inl h2
  · exact .inr ⟨g, cap, cur, e1, e2, (hk g (by rw [e1]; rfl)).trans e3, e4⟩
/-- Rows of other types lie in other blocks. -/
theorem own_types {w : World} {B B2 : Nat} {t t2 : TypeId} {z z2 : Nat} {v v2 : Value} {n n2 : Nat} {xs xs2 : List Value} (h : w.ownsRow B t z v n xs) (h2 : w.ownsRow B2 t2 z2 v2 n2 xs2) (ht : t ≠ t2) (g : Nat) (hg : v.ownBlock = some g) : v2.ownBlock ≠ some g := by
  intro hg2
  rcases h.2 with ⟨rfl, _⟩ | ⟨a, cap, cur, rfl, _, e3, _⟩
  · cases hg
  · rcases h2.2 with ⟨rfl, _⟩ | ⟨a2, cap2, cur2, rfl, _, e32, _⟩
    · cases hg2
    · cases hg
      cases hg2
      rw [e3] at e32
      cases e32
      exact ht rfl
theorem own_grown {w w' : World} {B B2 : Nat} {t t2 : TypeId} {z z2 : Nat} {v v2 : Value} {n n2 : Nat} {xs xs2 : List Value} (h : w.ownsRow B t z v n xs) (h2 : w.ownsRow B2 t2 z2 v2 n2 xs2) (ht : t ≠ t2) (hg : w.grownBy w' v.ownBlock) : w'.ownsRow B2 t2 z2 v2 n2 xs2 :=
  own_kept h2 (fun g hg2 => hg.block g (h2.lt g hg2).2 (fun e => own_types h h2 ht g e.symm hg2))
/-- The boxed W, and the three rows in it. -/
structure WBox (w : World) (b : Nat) (vB vN vA : Value) : Prop where
  c0 : w.cell? ⟨b, 0, none⟩ = some vB
  c1 : w.cell? ⟨b, 1, none⟩ = some vN
  c2 : w.cell? ⟨b, 2, none⟩ = some vA
  f0 : w.frozen? ⟨b, 0, none⟩ = false
  f1 : w.frozen? ⟨b, 1, none⟩ = false
  f2 : w.frozen? ⟨b, 2, none⟩ = false
theorem WBox.lt {w : World} {b : Nat} {vB vN vA : Value} (h : WBox w b vB vN vA) : b < w.heap.size := World.block_lt_of_cell? w ⟨b, 0, none⟩ h.c0
theorem WBox.kept {w w' : World} {b : Nat} {vB vN vA : Value} (h : WBox w b vB vN vA) (hk : w'.heap[b]? = w.heap[b]?) : WBox w' b vB vN vA :=
  ⟨(World.cell?_of_block (a := ⟨b, 0, none⟩) hk).trans h.c0, (World.cell?_of_block (a := ⟨b, 1, none⟩) hk).trans h.c1, (World.cell?_of_block (a := ⟨b, 2, none⟩) hk).trans h.c2, (World.frozen?_of_block (a := ⟨b, 0, none⟩) hk).trans h.f0, (World.frozen?_of_block (a := ⟨b, 1, none⟩) hk).trans h.f1, (World.frozen?_of_block (a := ⟨b, 2, none⟩) hk).trans h.f2⟩
theorem WBox.new (w : World) (vB vN vA : Value) : WBox (w.alloc (.cells #[vB, vN, vA] 70)) w.heap.size vB vN vA := by
  refine ⟨?_, ?_, ?_, ?_, ?_, ?_⟩
  · rw [World.cell?_alloc_new]; rfl
  · rw [World.cell?_alloc_new]; rfl
  · rw [World.cell?_alloc_new]; rfl
  · exact World.frozen?_alloc_new _ _ _ _
  · exact World.frozen?_alloc_new _ _ _ _
  · exact World.frozen?_alloc_new _ _ _ _
theorem WBox.set0 {w : World} {b : Nat} {vB vN vA : Value} (h : WBox w b vB vN vA) (v : Value) : WBox (w.setCell ⟨b, 0, none⟩ v) b v vN vA :=
  ⟨World.cell?_setCell_same _ _ _ h.c0, (World.cell?_setCell_other _ _ _ _ (by intro h; injection h; omega)).trans h.c1, (World.cell?_setCell_other _ _ _ _ (by intro h; injection h; omega)).trans h.c2, by rw [World.frozen?_setCell]; exact h.f0, by rw [World.frozen?_setCell]; exact h.f1, by rw [World.frozen?_setCell]; exact h.f2⟩
theorem WBox.set1 {w : World} {b : Nat} {vB vN vA : Value} (h : WBox w b vB vN vA) (v : Value) : WBox (w.setCell ⟨b, 1, none⟩ v) b vB v vA :=
  ⟨(World.cell?_setCell_other _ _ _ _ (by intro h; injection h; omega)).trans h.c0, World.cell?_setCell_same _ _ _ h.c1, (World.cell?_setCell_other _ _ _ _ (by intro h; injection h; omega)).trans h.c2, by rw [World.frozen?_setCell]; exact h.f0, by rw [World.frozen?_setCell]; exact h.f1, by rw [World.frozen?_setCell]; exact h.f2⟩
theorem WBox.set2 {w : World} {b : Nat} {vB vN vA : Value} (h : WBox w b vB vN vA) (v : Value) : WBox (w.setCell ⟨b, 2, none⟩ v) b vB vN v :=
  ⟨(World.cell?_setCell_other _ _ _ _ (by intro h; injection h; omega)).trans h.c0, (World.cell?_setCell_other _ _ _ _ (by intro h; injection h; omega)).trans h.c1, World.cell?_setCell_same _ _ _ h.c2, by rw [World.frozen?_setCell]; exact h.f0, by rw [World.frozen?_setCell]; exact h.f1, by rw [World.frozen?_setCell]; exact h.f2⟩
end Go.Proofs.Yticdpidngmeebaa
/- What the reference's Name of layer 8 holds on its way: kept beside its calls and its appends. -/
namespace Go.Proofs.Yticdpidngmeebaa
open Go.RowKit
set_option linter.unusedVariables false
set_option maxRecDepth 20000

/-- A number behind a row of numbers of one's own. -/
theorem wp_append_num {op : Oper} {a : Act} {w : World} {K : Act → World → Prop} {Q : Exit → Act → World → Prop} {B G c : Nat} {v : Value} {l : List Nat} {p : Nat} (hown : Hid (w.ownsRow B 3 1 v l.length (intsL l))) (hm : Hid (w.cell? ⟨G, 0, none⟩ = some (.int .i64 (p : Int)))) (hn : Hid (l.length ≤ 2000000 ∧ B ≤ w.heap.size)) (sl x : Operand)
    (ho : op.op = .call { callee := .builtin .append, args := #[sl, x], argTypes := #[56, 56] }) (hs : a.eval sl = v) (hx : a.eval x = .slice (some ⟨G, 0, none⟩) 1 c)
    (h : ∀ v' w', Hid (w'.ownsRow B 3 1 v' (l ++ [p]).length (intsL (l ++ [p]))) → Hid (w.grownBy w' v.ownBlock) → Hid (Foot v.ownBlock.toList v'.ownBlock.toList w w') → K (a.put op.dst v') w') : op.wp Try.prog a w K Q := by
  obtain ⟨i0, hi0, hz0, hz1, hz2⟩ := info_parts Try.infoInt8
  obtain ⟨hn1, hn2⟩ := hn.out
  obtain ⟨v', w', hr, h2, h3, _, h5⟩ := run_append_own_at (P := Try.prog) w B 56 op.type 3 i0 _ 1 8 Try.underlying56 hi0 hz0 hz1 hz2 rfl (by decide) v l.length (intsL l) hown.out ⟨G, 0, none⟩ 1 c [.int .i64 (p : Int)] rfl (fun j u hu => by
      match j, hu with
      | 0, hu => rw [add_none, hm.out]; exact hu
      | j + 1, hu => simp at hu) (fun u hu => by rw [List.mem_singleton.1 hu]; rfl) (by unfold maxLen; omega) (by omega) hn2
  unfold Oper.wp execOp
  simp only [ho, resolve, invoke, builtin, Sem.run_bind, Sem.run_pure, Result.andThen_ok, List.map_toArray, List.map_cons, List.map_nil, hs, hx, hr]
  refine h v' w' (Lib.hid ?_) (Lib.hid h3) (Lib.hid (Foot.ofGrown h3 (h5.imp id (fun e g hg => by rw [e] at hg; cases hg; exact Nat.le_refl _))))
  simpa [intsL] using h2
abbrev nilS : Value := .slice none 0 0
def blk3 (vB vN vA : Value) : List Nat := vB.ownBlock.toList ++ vN.ownBlock.toList ++ vA.ownBlock.toList
theorem mem_blk3 {vB vN vA : Value} {k : Nat} : k ∈ blk3 vB vN vA ↔ vB.ownBlock = some k ∨ vN.ownBlock = some k ∨ vA.ownBlock = some k := by simp [blk3]
structure NSt (w : World) (B S0 : Nat) (F0 : List Nat) (aL : Option Addr) (cL : Nat) (L : List ByteArray) (wr : World) (vB vN vA : Value) (l : List UInt8) (ns : List ByteArray) (ats : List Nat) : Prop where
  box : WBox wr w.heap.size vB vN vA
  res : WBox wr (w.heap.size + 1) nilS nilS nilS
  rb : wr.ownsRow B 5 1 vB l.length (bys l)
  rn : wr.ownsRow B 9 1 vN ns.length (ns.map Value.string)
  ra : wr.ownsRow B 3 1 vA ats.length (intsL ats)
  lab : RowS wr aL cL L
  foot : Foot F0 (blk3 vB vN vA) w wr
  away : ∀ k ∈ blk3 vB vN vA, k < w.heap.size ∨ S0 ≤ k
  sz : S0 ≤ wr.heap.size
  base : B ≤ w.heap.size
  two : w.heap.size + 1 < S0
  fresh : ∀ g, aL = some ⟨g, 0, none⟩ → w.heap.size + 1 < g ∧ g < S0
theorem RowS.kept {w w' : World} {a : Option Addr} {c : Nat} {l : List ByteArray} (h : RowS w a c l) (hs : w.heap.size ≤ w'.heap.size) (hk : ∀ g, a = some ⟨g, 0, none⟩ → w'.heap[g]? = w.heap[g]?) : RowS w' a c l := by
  rcases h with h | ⟨g, e, h⟩
  · exact .inl h
  · exact .inr ⟨g, e, h.len, h.cap, h.capm, Nat.lt_of_lt_of_le h.lt hs, fun i hi => (World.cell?_of_block (a := ⟨g, i, none⟩) (hk g e)).trans (h.cells i hi)⟩
section
variable {w : World} {B S0 : Nat} {F0 : List Nat} {aL : Option Addr} {cL : Nat} {L : List ByteArray} {wr wr' : World} {vB vN vA : Value} {l : List UInt8} {ns : List ByteArray} {ats : List Nat}
theorem NSt.below (h : NSt w B S0 F0 aL cL L wr vB vN vA l ns ats) (hb : Below wr.heap.size wr wr') : NSt w B S0 F0 aL cL L wr' vB vN vA l ns ats :=
  ⟨h.box.kept (hb.block _ h.box.lt), h.res.kept (hb.block _ h.res.lt), own_below8 h.rb hb, own_below8 h.rn hb, own_below8 h.ra hb, h.lab.below hb, h.foot.trans (Foot.ofBelow _ hb), h.away, Nat.le_trans h.sz hb.size, h.base, h.two, h.fresh⟩
theorem NSt.put0 (h : NSt w B S0 F0 aL cL L wr vB vN vA l ns ats) {v' : Value} {l' : List UInt8} (hown : wr'.ownsRow B 5 1 v' l'.length (bys l')) (hg : wr.grownBy wr' vB.ownBlock) (hf : Foot vB.ownBlock.toList v'.ownBlock.toList wr wr') :
    NSt w B S0 F0 aL cL L (wr'.setCell ⟨w.heap.size, 0, none⟩ v') v' vN vA l' ns ats := by
  have hme : ∀ k, vB.ownBlock = some k → k < w.heap.size ∨ S0 ≤ k := fun k hk => h.away k (mem_blk3.2 (.inl hk))
  have hnew : ∀ k, v'.ownBlock = some k → vB.ownBlock = some k ∨ wr.heap.size ≤ k := fun k hk => (hf.new k (by rw [hk]; simp)).imp (fun e => by simpa using e) id
  have h2 := h.two
  have hsz := h.sz
  have hset : ∀ k, k ≠ w.heap.size → (wr'.setCell ⟨w.heap.size, 0, none⟩ v').heap[k]? = wr'.heap[k]? := fun k hk => Below.heap_setCell wr' ⟨w.heap.size, 0, none⟩ v' k hk
  have hold : ∀ k, k < wr.heap.size → vB.ownBlock ≠ some k → k ≠ w.heap.size → (wr'.setCell ⟨w.heap.size, 0, none⟩ v').heap[k]? = wr.heap[k]? := fun k h1 h3 h4 => (hset k h4).trans (hg.block k h1 (fun e => h3 e.symm))
  have hssz : (wr'.setCell ⟨w.heap.size, 0, none⟩ v').heap.size = wr'.heap.size := by simp [World.setCell]
  refine ⟨?_, ?_, ?_, ?_, ?_, ?_, ?_, ?_, ?_, h.base, h.two, h.fresh⟩
  · exact (h.box.kept (hg.block _ h.box.lt (fun e => by rcases hme _ e.symm with e | e <;> omega))).set0 v'
  · exact h.res.kept (hold _ h.res.lt (fun e => by rcases hme _ e with e | e <;> omega) (by omega))
  · exact own_kept hown (fun k hk => hset k (fun e => by
      subst e
      rcases hnew _ hk with e | e
      · rcases hme _ e with e | e <;> omega
      · omega))
  · exact own_kept (own_grown h.rb h.rn (by decide) hg) (fun k hk => hset k (fun e => by
      subst e
      rcases h.away _ (mem_blk3.2 (.inr (.inl hk))) with e | e <;> omega))
  · exact own_kept (own_grown h.rb h.ra (by decide) hg) (fun k hk => hset k (fun e => by
      subst e
      rcases h.away _ (mem_blk3.2 (.inr (.inr hk))) with e | e <;> omega))
  · refine h.lab.kept (by rw [hssz]; exact hg.size) (fun g hgL => ?_)
    have h3 := h.fresh g hgL
    exact hold g (by omega) (fun e => by rcases hme _ e with e | e <;> omega) (by omega)
  · refine ⟨hg.os.trans h.foot.os, hg.tape.trans h.foot.tape, hg.output.trans h.foot.output, by rw [hssz]; exact Nat.le_trans h.foot.size hg.size, fun k hk hn => ?_, fun k hk => ?_⟩
    · refine (hold k (Nat.lt_of_lt_of_le hk h.foot.size) (fun e => ?_) (by omega)).trans (h.foot.keep k hk hn)
      rcases h.foot.new k (mem_blk3.2 (.inl e)) with e | e
      · exact hn e
      · omega
    · rcases mem_blk3.1 hk with e | e | e
      · rcases hnew k e with e | e
        · exact h.foot.new k (mem_blk3.2 (.inl e))
        · exact .inr (Nat.le_trans h.foot.size e)
      · exact h.foot.new k (mem_blk3.2 (.inr (.inl e)))
      · exact h.foot.new k (mem_blk3.2 (.inr (.inr e)))
  · intro k hk
    rcases mem_blk3.1 hk with e | e | e
    · rcases hnew k e with e | e
      · exact hme k e
      · exact .inr (by omega)
    · exact h.away k (mem_blk3.2 (.inr (.inl e)))
    · exact h.away k (mem_blk3.2 (.inr (.inr e)))
  · rw [hssz]; exact Nat.le_trans h.sz hg.size
theorem NSt.put1 (h : NSt w B S0 F0 aL cL L wr vB vN vA l ns ats) {v' : Value} {ns' : List ByteArray} (hown : wr'.ownsRow B 9 1 v' ns'.length (ns'.map Value.string)) (hg : wr.grownBy wr' vN.ownBlock) (hf : Foot vN.ownBlock.toList v'.ownBlock.toList wr wr') :
    NSt w B S0 F0 aL cL L (wr'.setCell ⟨w.heap.size, 1, none⟩ v') vB v' vA l ns' ats := by
  have hme : ∀ k, vN.ownBlock = some k → k < w.heap.size ∨ S0 ≤ k := fun k hk => h.away k (mem_blk3.2 (.inr (.inl hk)))
  have hnew : ∀ k, v'.ownBlock = some k → vN.ownBlock = some k ∨ wr.heap.size ≤ k := fun k hk => (hf.new k (by rw [hk]; simp)).imp (fun e => by simpa using e) id
  have h2 := h.two
  have hsz := h.sz
  have hset : ∀ k, k ≠ w.heap.size → (wr'.setCell ⟨w.heap.size, 1, none⟩ v').heap[k]? = wr'.heap[k]? := fun k hk => Below.heap_setCell wr' ⟨w.heap.size, 1, none⟩ v' k hk
  have hold : ∀ k, k < wr.heap.size → vN.ownBlock ≠ some k → k ≠ w.heap.size → (wr'.setCell ⟨w.heap.size, 1, none⟩ v').heap[k]? = wr.heap[k]? := fun k h1 h3 h4 => (hset k h4).trans (hg.block k h1 (fun e => h3 e.symm))
  have hssz : (wr'.setCell ⟨w.heap.size, 1, none⟩ v').heap.size = wr'.heap.size := by simp [World.setCell]
  refine ⟨?_, ?_, ?_, ?_, ?_, ?_, ?_, ?_, ?_, h.base, h.two, h.fresh⟩
  · exact (h.box.kept (hg.block _ h.box.lt (fun e => by rcases hme _ e.symm with e | e <;> omega))).set1 v'
  · exact h.res.kept (hold _ h.res.lt (fun e => by rcases hme _ e with e | e <;> omega) (by omega))
  · exact own_kept (own_grown h.rn h.rb (by decide) hg) (fun k hk => hset k (fun e => by
      subst e
      rcases h.away _ (mem_blk3.2 (.inl hk)) with e | e <;> omega))
  · exact own_kept hown (fun k hk => hset k (fun e => by
      subst e
      rcases hnew _ hk with e | e
      · rcases hme _ e with e | e <;> omega
      · omega))
  · exact own_kept (own_grown h.rn h.ra (by decide) hg) (fun k hk => hset k (fun e => by
      subst e
      rcases h.away _ (mem_blk3.2 (.inr (.inr hk))) with e | e <;> omega))
  · refine h.lab.kept (by rw [hssz]; exact hg.size) (fun g hgL => ?_)
    have h3 := h.fresh g hgL
    exact hold g (by omega) (fun e => by rcases hme _ e with e | e <;> omega) (by omega)
  · refine ⟨hg.os.trans h.foot.os, hg.tape.trans h.foot.tape, hg.output.trans h.foot.output, by rw [hssz]; exact Nat.le_trans h.foot.size hg.size, fun k hk hn => ?_, fun k hk => ?_⟩
    · refine (hold k (Nat.lt_of_lt_of_le hk h.foot.size) (fun e => ?_) (by omega)).trans (h.foot.keep k hk hn)
      rcases h.foot.new k (mem_blk3.2 (.inr (.inl e))) with e | e
      · exact hn e
      · omega
    · rcases mem_blk3.1 hk with e | e | e
      · exact h.foot.new k (mem_blk3.2 (.inl e))
      · rcases hnew k e with e | e
        · exact h.foot.new k (mem_blk3.2 (.inr (.inl e)))
        · exact .inr (Nat.le_trans h.foot.size e)
      · exact h.foot.new k (mem_blk3.2 (.inr (.inr e)))
  · intro k hk
    rcases mem_blk3.1 hk with e | e | e
    · exact h.away k (mem_blk3.2 (.inl e))
    · rcases hnew k e with e | e
      · exact hme k e
      · exact .inr (by omega)
    · exact h.away k (mem_blk3.2 (.inr (.inr e)))
  · rw [hssz]; exact Nat.le_trans h.sz hg.size
theorem NSt.put2 (h : NSt w B S0 F0 aL cL L wr vB vN vA l ns ats) {v' : Value} {ats' : List Nat} (hown : wr'.ownsRow B 3 1 v' ats'.length (intsL ats')) (hg : wr.grownBy wr' vA.ownBlock) (hf : Foot vA.ownBlock.toList v'.ownBlock.toList wr wr') :
    NSt w B S0 F0 aL cL L (wr'.setCell ⟨w.heap.size, 2, none⟩ v') vB vN v' l ns ats' := by
  have hme : ∀ k, vA.ownBlock = some k → k < w.heap.size ∨ S0 ≤ k := fun k hk => h.away k (mem_blk3.2 (.inr (.inr hk)))
  have hnew : ∀ k, v'.ownBlock = some k → vA.ownBlock = some k ∨ wr.heap.size ≤ k := fun k hk => (hf.new k (by rw [hk]; simp)).imp (fun e => by simpa using e) id
  have h2 := h.two
  have hsz := h.sz
  have hset : ∀ k, k ≠ w.heap.size → (wr'.setCell ⟨w.heap.size, 2, none⟩ v').heap[k]? = wr'.heap[k]? := fun k hk => Below.heap_setCell wr' ⟨w.heap.size, 2, none⟩ v' k hk
  have hold : ∀ k, k < wr.heap.size → vA.ownBlock ≠ some k → k ≠ w.heap.size → (wr'.setCell ⟨w.heap.size, 2, none⟩ v').heap[k]? = wr.heap[k]? := fun k h1 h3 h4 => (hset k h4).trans (hg.block k h1 (fun e => h3 e.symm))
  have hssz : (wr'.setCell ⟨w.heap.size, 2, none⟩ v').heap.size = wr'.heap.size := by simp [World.setCell]
  refine ⟨?_, ?_, ?_, ?_, ?_, ?_, ?_, ?_, ?_, h.base, h.two, h.fresh⟩
  · exact (h.box.kept (hg.block _ h.box.lt (fun e => by rcases hme _ e.symm with e | e <;> omega))).set2 v'
  · exact h.res.kept (hold _ h.res.lt (fun e => by rcases hme _ e with e | e <;> omega) (by omega))
  · exact own_kept (own_grown h.ra h.rb (by decide) hg) (fun k hk => hset k (fun e => by
      subst e
      rcases h.away _ (mem_blk3.2 (.inl hk)) with e | e <;> omega))
  · exact own_kept (own_grown h.ra h.rn (by decide) hg) (fun k hk => hset k (fun e => by
      subst e
      rcases h.away _ (mem_blk3.2 (.inr (.inl hk))) with e | e <;> omega))
  · exact own_kept hown (fun k hk => hset k (fun e => by
      subst e
      rcases hnew _ hk with e | e
      · rcases hme _ e with e | e <;> omega
      · omega))
  · refine h.lab.kept (by rw [hssz]; exact hg.size) (fun g hgL => ?_)
    have h3 := h.fresh g hgL
    exact hold g (by omega) (fun e => by rcases hme _ e with e | e <;> omega) (by omega)
  · refine ⟨hg.os.trans h.foot.os, hg.tape.trans h.foot.tape, hg.output.trans h.foot.output, by rw [hssz]; exact Nat.le_trans h.foot.size hg.size, fun k hk hn => ?_, fun k hk => ?_⟩
    · refine (hold k (Nat.lt_of_lt_of_le hk h.foot.size) (fun e => ?_) (by omega)).trans (h.foot.keep k hk hn)
      rcases h.foot.new k (mem_blk3.2 (.inr (.inr e))) with e | e
      · exact hn e
      · omega
    · rcases mem_blk3.1 hk with e | e | e
      · exact h.foot.new k (mem_blk3.2 (.inl e))
      · exact h.foot.new k (mem_blk3.2 (.inr (.inl e)))
      · rcases hnew k e with e | e
        · exact h.foot.new k (mem_blk3.2 (.inr (.inr e)))
        · exact .inr (Nat.le_trans h.foot.size e)
  · intro k hk
    rcases mem_blk3.1 hk with e | e | e
    · exact h.away k (mem_blk3.2 (.inl e))
    · exact h.away k (mem_blk3.2 (.inr (.inl e)))
    · rcases hnew k e with e | e
      · exact hme k e
      · exact .inr (by omega)
  · rw [hssz]; exact Nat.le_trans h.sz hg.size
end
/-- Labels, with where its row lies. -/
theorem refLabels_new (s : ByteArray) (w : World) (hs : s.size ≤ 2000000) :
    Calls Try.prog 52 #[.string s] w fun e w' => ∃ a c, e = .returned (.slice a (labelsB s).length c) ∧ RowS w' a c (labelsB s) ∧ (∀ g, a = some ⟨g, 0, none⟩ → w.heap.size ≤ g ∧ g < w'.heap.size) ∧ Below w.heap.size w w' := by
  by_cases h0 : s.size = 0
  · have he := isEmpty_true s h0
    have HE : Hid (labelsB s = []) := Lib.hid (by unfold labelsB; rw [if_pos h0])
    rw [HE.out]
    clear hs h0
    go_enter Try.func52, Try.ntmps52
    go_wp2_with fail
    go_ret
    exact ⟨none, 0, rfl, .inl ⟨rfl, rfl, rfl⟩, (fun g hg => by cases hg), Below.refl _ _⟩
  · have he := isEmpty_false s (by omega)
    have HE : Hid (labelsB s = pieces s 46) := Lib.hid (by unfold labelsB; rw [if_neg h0])
    have HSP := Lib.hid (refSplit_row s 46 w hs)
    rw [HE.out]
    generalize pieces s 46 = l at *
    clear hs h0 HE
    go_enter Try.func52, Try.ntmps52
    go_wp2_with fail
    refine HSP.out.mono ?_
    rintro e w1 ⟨g, c, rfl, hg, hr, hb⟩
    have HR := Lib.hid hr
    have HB := Lib.hid hb
    have HG := Lib.hid hg
    clear hr hb hg HSP
    go_wp2_with fail
    go_ret
    exact ⟨_, _, rfl, .inr ⟨g, rfl, HR.out⟩, (fun g2 hg2 => by cases hg2; exact ⟨HG.out, HR.out.lt⟩), HB.out⟩
end Go.Proofs.Yticdpidngmeebaa
/- What the reference's Name of layer 8 hands back: its cells laid, all else kept. -/
namespace Go.Proofs.Yticdpidngmeebaa
open Go.RowKit
set_option linter.unusedVariables false
set_option maxRecDepth 20000

/-- What Name hands back. -/
def NameRet (w : World) (B : Nat) (F0 : List Nat) (m : Bool) (R : List UInt8 × List ByteArray × List Nat) (e : Ending) (w' : World) : Prop :=
  ∃ vB vN vA, e = .returned (.tuple #[.agg #[vB, vN, vA], .bool m]) ∧ w'.ownsRow B 5 1 vB R.1.length (bys R.1) ∧ w'.ownsRow B 9 1 vN R.2.1.length (R.2.1.map Value.string) ∧ w'.ownsRow B 3 1 vA R.2.2.length (intsL R.2.2) ∧ Foot F0 (blk3 vB vN vA) w w'
theorem own_slice {w : World} {B : Nat} {t : TypeId} {z : Nat} {v : Value} {n : Nat} {xs : List Value} (h : w.ownsRow B t z v n xs) : ∃ a c, v = .slice a n c := by
  rcases h.2 with ⟨h1, h2⟩ | ⟨g, cap, cur, h1, _⟩
  · exact ⟨none, 0, by rw [h1, h2]⟩
  · exact ⟨_, _, h1⟩
theorem cells_new8 (w : World) (l : List Value) (t : TypeId) : ∀ j u, l[j]? = some u → (w.alloc (.cells l.toArray t)).cell? ⟨w.heap.size, j, none⟩ = some u := by
  intro j u h
  simp [World.cell?_alloc_new, h]
theorem WBox.range {w : World} {b : Nat} {vB vN vA : Value} (h : WBox w b vB vN vA) : w.rangeAt b 0 [vB, vN, vA] := by
  intro j u hu
  match j, hu with
  | 0, hu => cases hu; exact h.c0
  | 1, hu => cases hu; exact h.c1
  | 2, hu => cases hu; exact h.c2
  | j + 3, hu => simp at hu
theorem loadVar_W {w : World} {b : Nat} {vB vN vA : Value} (h : WBox w b vB vN vA) : (loadVar 70 ⟨b, 0, none⟩).run Try.prog w = .ok (.agg #[vB, vN, vA]) w :=
  run_loadVar_mid w b 0 70 [vB, vN, vA] _ h.range Try.underlying70 rfl (by kernel_rfl)
theorem results_W {fn : Func} {a t : Tmp} {tmps : Array Value} {W : World} {b : Nat} {vB vN vA : Value} (h : fn.results = #[.cell a 70, .tmp t]) (ha : tmps.getD a undef = .pointer (some ⟨b, 0, none⟩)) (hA : WBox W b vB vN vA) : (results fn tmps).run Try.prog W = .ok (.tuple #[.agg #[vB, vN, vA], tmps.getD t undef]) W := by
  rw [Array.getD_eq_getD_getElem?] at ha
  simp [results, h, ha, asAddr, loadVar_W hA]
/-- The result's cells laid: all else stays. -/
theorem name_laid {w wr : World} {B : Nat} {F0 : List Nat} {m : Bool} {vB vN vA : Value} {l : List UInt8} {ns : List ByteArray} {ats : List Nat} (rb : wr.ownsRow B 5 1 vB l.length (bys l)) (rn : wr.ownsRow B 9 1 vN ns.length (ns.map Value.string)) (ra : wr.ownsRow B 3 1 vA ats.length (intsL ats)) (foot : Foot F0 (blk3 vB vN vA) w wr) (away : ∀ k ∈ blk3 vB vN vA, k ≠ w.heap.size + 1) :
    NameRet w B F0 m (l, ns, ats) (.returned (.tuple #[.agg #[vB, vN, vA], .bool m])) (((wr.setCell ⟨w.heap.size + 1, 0, none⟩ vB).setCell ⟨w.heap.size + 1, 1, none⟩ vN).setCell ⟨w.heap.size + 1, 2, none⟩ vA) := by
  have hset : ∀ k, k ≠ w.heap.size + 1 → (((wr.setCell ⟨w.heap.size + 1, 0, none⟩ vB).setCell ⟨w.heap.size + 1, 1, none⟩ vN).setCell ⟨w.heap.size + 1, 2, none⟩ vA).heap[k]? = wr.heap[k]? := fun k hk => by
    rw [Below.heap_setCell _ ⟨w.heap.size + 1, 2, none⟩ vA k hk, Below.heap_setCell _ ⟨w.heap.size + 1, 1, none⟩ vN k hk, Below.heap_setCell _ ⟨w.heap.size + 1, 0, none⟩ vB k hk]
  refine ⟨vB, vN, vA, rfl, own_kept rb (fun k hk => hset k (away k (mem_blk3.2 (.inl hk)))), own_kept rn (fun k hk => hset k (away k (mem_blk3.2 (.inr (.inl hk))))), own_kept ra (fun k hk => hset k (away k (mem_blk3.2 (.inr (.inr hk))))), foot.os, foot.tape, foot.output, ?_, fun k hk hn => (hset k (by omega)).trans (foot.keep k hk hn), foot.new⟩
  simp only [World.setCell, Array.size_modify]
  exact foot.size
theorem WBox.laid {w : World} {b : Nat} {v0 v1 v2 : Value} (h : WBox w b v0 v1 v2) (vB vN vA : Value) : WBox (((w.setCell ⟨b, 0, none⟩ vB).setCell ⟨b, 1, none⟩ vN).setCell ⟨b, 2, none⟩ vA) b vB vN vA := ((h.set0 vB).set1 vN).set2 vA
end Go.Proofs.Yticdpidngmeebaa

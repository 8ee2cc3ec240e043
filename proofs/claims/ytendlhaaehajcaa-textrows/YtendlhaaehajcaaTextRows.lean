/- For every text and every list of bools the statement TextRows answers true: a text is like itself with any of its small letters made great, and not like itself with a letter more. -/
import Derived.Test.YtendlhaaehajcaaCases
import Derived.ProofKit
import Derived.OpenShut
import Derived.ShutString
import Derived.ChangeOld
import Derived.Below
import Derived.Deep.Grids
namespace Go.Proofs.Ytendlhaaehajcaa.textRows
open Go.ChangeShapes Go.WideShapes Go.ChangeAt Go.RowKit
open Go.ChangeMaps (open_string shut_string)
set_option linter.unusedVariables false

theorem own : ownKnob Try.prog.godebug = none := by kernel_rfl
theorem laidOut : laidOutB Try.prog = true := by kernel_rfl

/-- What is known of a slice of bools that came in. -/
def IsBools (w : World) (a : Option Addr) (len cap : Nat) (B : Nat → Bool) : Prop :=
  (a = none ∧ len = 0 ∧ cap = 0) ∨ ∃ x, a = some x ∧ len ≤ cap ∧ cap ≤ maxLen ∧ ∀ i, i < cap → w.cell? (x.add i) = some (.bool (B i))
theorem add_off (b off : Nat) (j : Nat) : (⟨b, off, none⟩ : Addr).add j = ⟨b, off + j, none⟩ := by
  unfold Addr.add
  split <;> simp_all
/-- Its k-th cell. -/
theorem bools_at {w : World} {a : Option Addr} {len cap : Nat} {B : Nat → Bool} (h : IsBools w a len cap B) {k : Nat} (hk : k < len) :
    ∃ b off, a = some ⟨b, off, none⟩ ∧ b < w.heap.size ∧ w.cell? ⟨b, off + k, none⟩ = some (.bool (B k)) := by
  rcases h with ⟨_, rfl, _⟩ | ⟨x, rfl, hl, hm, hc⟩
  · omega
  · obtain ⟨b, off, spot⟩ := x
    have h1 := hc k (by omega)
    have hs : spot = none := by simpa [Addr.add] using World.cell?_spot (hc 0 (by omega))
    subst hs
    rw [add_off] at h1
    refine ⟨b, off, rfl, ?_, h1⟩
    rcases Nat.lt_or_ge b w.heap.size with hlt | hge
    · exact hlt
    · simp [World.cell?, Array.getElem?_eq_none hge] at h1

theorem lowU_great (c : UInt8) (h : 97 ≤ c.toNat ∧ c.toNat ≤ 122) : lowU (UInt8.ofNat (c.toNat - 32)) = lowU c := by
  apply UInt8.toNat_inj.1
  rw [lowU_toNat, lowU_toNat, UInt8.toNat_ofNat']
  unfold lowC
  rw [Nat.mod_eq_of_lt (by omega), if_pos (by omega), if_neg (by omega)]
  omega
theorem great_toNat (c : UInt8) (h : 97 ≤ c.toNat ∧ c.toNat ≤ 122) : (UInt8.ofNat (c.toNat - 32)).toNat + 32 = c.toNat := by
  rw [UInt8.toNat_ofNat', Nat.mod_eq_of_lt (by omega)]
  omega

set_option maxHeartbeats 2000000 in
theorem walk (a0 : ByteArray) (a1 : Option Addr) (len1 cap1 : Nat) (z1 : Nat → Bool) (w : World) (w0 : a0.size ≤ maxLen) (w1 : IsBools w a1 len1 cap1 z1) :
    Calls Try.prog 7 #[.string a0, .slice a1 len1 cap1] w fun e w' => e = .returned (.bool true) ∧ Below w.heap.size w w' := by
  obtain ⟨i0, hi0, hz0, hz1, hz2⟩ := info_parts Try.infoByte
  have hlen : len1 ≤ 9223372036854775807 := by
    rcases w1 with ⟨_, rfl, _⟩ | ⟨x, _, hl, hm, _⟩
    · omega
    · unfold maxLen at hm; omega
  have W1 := Lib.hid w1
  clear w1
  go_enter Try.func7, Try.ntmps7
  go_wp2_with fail
  refine (few_any a0 60 _ w0 (by decide)).mono ?_
  rintro e w' ⟨rfl, rfl⟩
  have ha := few_size a0 60
  generalize few a0 60 = s at *
  go_wp2_with fail
  go_loopw [5, 6] (fun v i wr => ∃ (k : Nat) (l : List UInt8), k ≤ s.size ∧ i = .int .i64 k ∧ l.map lowU = (s.data.toList.map lowU).take k ∧ wr.ownsRow w.heap.size 5 1 v l.length (bys l) ∧ Below w.heap.size w wr) (fun _ i _ => s.size - (intOf i).toNat)
  case atStart => exact ⟨0, [], Nat.zero_le _, rfl, rfl, World.ownsRow_nil _ _ _ _, Below.refl _ _⟩
  case round =>
    obtain ⟨k, l, hk, rfl, hl, hown, hbel⟩ := hrel
    have hsz := hbel.size
    have hlk : l.length ≤ k := by
      have := congrArg List.length hl
      simp at this
      omega
    have HL := Lib.hid hl
    clear hl
    by_cases hlt : k < s.size
    · have HS := Lib.hid (low_snoc s k hlt)
      have u1 : (s[k]).toNat < 256 := (s[k]).toNat_lt
      by_cases hturn : (k < len1 ∧ z1 k = true) ∧ 97 ≤ (s[k]).toNat ∧ (s[k]).toNat ≤ 122
      · obtain ⟨⟨hkl, hzk⟩, hcc⟩ := hturn
        obtain ⟨b, off, rfl, hbs, hcell0⟩ := bools_at W1.out hkl
        rw [hzk] at hcell0
        have hcell : wr.cell? ⟨b, off + k, none⟩ = some (.bool true) := (hbel.cell (p := ⟨b, off + k, none⟩) hbs).trans hcell0
        have HG := Lib.hid (lowU_great s[k] hcc)
        have hgt := great_toNat s[k] hcc
        have hxi : IntKind.u8.wrap (((s[k]).toNat : Int) - 32) = ((s[k]).toNat : Int) - 32 := by rw [IntKind.wrap_u8]; omega
        have HGT := Lib.hid hgt
        clear hzk hcell0 hgt
        go_wp2_with (at_builtin; refine wpList_append_own _ rfl (.tmp 40) (.tmp 42) 30 rfl w.heap.size 5 i0 _ 1 1 Try.underlying30 hi0 hz0 hz1 hz2 rfl (by decide) _ _ _ rfl (hown.alloc _) ⟨wr.heap.size, 0, none⟩ 1 1 [.int .u8 (((s[k]).toNat : Int) - 32)] rfl rfl ?c1 ?c2 ?c3 ?c4 ?c5 ?_)
        case c1 => exact cell_one_new _ _ _
        case c2 => intro u hu; simp at hu; subst hu; rfl
        case c3 => unfold maxLen; omega
        case c4 => omega
        case c5 => simp; omega
        intro v' w1 hown' hgrow _
        rw [show (((s[k]).toNat : Int) - 32) = ((UInt8.ofNat ((s[k]).toNat - 32)).toNat : Int) by have := HGT.out; omega] at hown'
        have R := own_byte hown' hgrow hown hbel
        clear hown' hgrow hown hbel hxi
        go_wp2
        go_roundw
        case rel => exact ⟨k + 1, _, by omega, by go_num, by rw [HS.out, ← HL.out, List.map_append, List.map_singleton, HG.out], R.1, R.2⟩
        case measure => simp [intOf]; omega
      · have hways : (¬ k < len1) ∨ (k < len1 ∧ z1 k = false) ∨ (k < len1 ∧ z1 k = true ∧ (s[k]).toNat < 97) ∨ (k < len1 ∧ z1 k = true ∧ 122 < (s[k]).toNat) := by
          by_cases h1 : k < len1
          · cases hz : z1 k with
            | false => exact .inr (.inl ⟨h1, rfl⟩)
            | true =>
              rcases Nat.lt_or_ge (s[k]).toNat 97 with h | h
              · exact .inr (.inr (.inl ⟨h1, rfl, h⟩))
              · exact .inr (.inr (.inr ⟨h1, rfl, by
                  rcases Nat.lt_or_ge 122 (s[k]).toNat with h' | h'
                  · exact h'
                  · exact absurd ⟨⟨h1, hz⟩, h, h'⟩ hturn⟩))
          · exact .inl h1
        clear hturn
        rcases hways with h1 | ⟨h1, hz⟩ | ⟨h1, hz, h2⟩ | ⟨h1, hz, h2⟩
        · go_wp2_with (at_builtin; refine wpList_append_own _ rfl (.tmp 40) (.tmp 42) 30 rfl w.heap.size 5 i0 _ 1 1 Try.underlying30 hi0 hz0 hz1 hz2 rfl (by decide) _ _ _ rfl (hown.alloc _) ⟨wr.heap.size, 0, none⟩ 1 1 [.int .u8 ((s[k]).toNat : Int)] rfl rfl (cell_one_new _ _ _) (by intro u hu; simp at hu; subst hu; rfl) (by unfold maxLen; omega) (by omega) (by simp; omega) ?_)
          intro v' w1 hown' hgrow _
          have R := own_byte hown' hgrow hown hbel
          clear hown' hgrow hown hbel
          go_wp2
          go_roundw
          case rel => exact ⟨k + 1, _, by omega, by go_num, by rw [HS.out, ← HL.out, List.map_append, List.map_singleton], R.1, R.2⟩
          case measure => simp [intOf]; omega
        all_goals
          obtain ⟨b, off, rfl, hbs, hcell0⟩ := bools_at W1.out h1
          rw [hz] at hcell0
          have hcell := (hbel.cell (p := ⟨b, off + k, none⟩) hbs).trans hcell0
          clear hz hcell0
          go_wp2_with (at_builtin; refine wpList_append_own _ rfl (.tmp 40) (.tmp 42) 30 rfl w.heap.size 5 i0 _ 1 1 Try.underlying30 hi0 hz0 hz1 hz2 rfl (by decide) _ _ _ rfl (hown.alloc _) ⟨wr.heap.size, 0, none⟩ 1 1 [.int .u8 ((s[k]).toNat : Int)] rfl rfl (cell_one_new _ _ _) (by intro u hu; simp at hu; subst hu; rfl) (by unfold maxLen; omega) (by omega) (by simp; omega) ?_)
          intro v' w1 hown' hgrow _
          have R := own_byte hown' hgrow hown hbel
          clear hown' hgrow hown hbel
          go_wp2
          go_roundw
          case rel => exact ⟨k + 1, _, by omega, by go_num, by rw [HS.out, ← HL.out, List.map_append, List.map_singleton], R.1, R.2⟩
          case measure => simp [intOf]; omega
    · obtain rfl : k = s.size := by omega
      have hback := own_bytes_back hown
      obtain ⟨t, ht⟩ : ∃ t : ByteArray, t = ⟨l.toArray⟩ := ⟨_, rfl⟩
      rw [← ht] at hback
      have hlt2 : lowB t = lowB s := by
        apply bytes_ext
        rw [lowB_list, lowB_list, ht]
        have h2 := HL.out
        rw [List.take_of_length_le (by simp)] at h2
        simpa using h2
      have hts : t.size = s.size := by rw [← lowB_size t, ← lowB_size s, hlt2]
      have htz : t.size ≤ 60 := by omega
      have hself : ((lowB s).toList == (lowB s).toList) = true := by simp
      have L1 : likeB s t = true := by unfold likeB; rw [hlt2]; exact hself
      have L2 : likeB t s = true := by unfold likeB; rw [hlt2]; exact hself
      have L3 : ∀ X : ByteArray, X.size = 1 → likeB s (s ++ X) = false := fun X hX => likeB_size (by rw [ByteArray.size_append]; omega)
      have h97 : ∀ X : ByteArray, X.size = 1 → (s ++ X).size ≤ 1000000 := fun X hX => by rw [ByteArray.size_append]; omega
      have H97 := Lib.hid h97
      clear h97
      have HL1 := Lib.hid L1
      have HL2 := Lib.hid L2
      have HL3 := Lib.hid L3
      have HLT := Lib.hid hlt2
      clear L1 L2 L3 hlt2 hts ht hown
      go_wp2_with fail
      refine (like_any s t _ (by omega) (by omega)).mono ?_
      rintro e w3 ⟨rfl, q3, rfl⟩
      rw [HL1.out]
      go_wp2_with fail
      refine (like_any t s _ (by omega) (by omega)).mono ?_
      rintro e w4 ⟨rfl, q4, rfl⟩
      rw [HL2.out]
      go_wp2_with fail
      refine (lower_any t _ (by omega)).mono ?_
      rintro e w5 ⟨rfl, hb5⟩
      rw [HLT.out]
      go_wp2_with fail
      refine (lower_any s _ (by omega)).mono ?_
      rintro e w6 ⟨rfl, hb6⟩
      go_wp2_with fail
      refine (like_any s _ _ (by omega) (H97.out _ rfl)).mono ?_
      rintro e w7 ⟨rfl, q7, rfl⟩
      rw [HL3.out _ rfl]
      go_wp2_with fail
      refine (lives_any _).mono ?_
      rintro e w8 ⟨rfl, hb8⟩
      go_wp2
      go_ret
      refine ⟨rfl, ?_⟩
      have b4 := belowN hbel (q3 + q4)
      have b6 := b4.trans (Below.mono (chain hb5 hb6) b4.size)
      have b7 := belowN b6 q7
      exact b7.trans (Below.mono hb8 b7.size)

set_option maxRecDepth 100000 in
theorem lifted (os : Os) (started : os.Started) (H : Type) (enc : TypeId × Value → H) :
    ReturnsInHanded {} Try.checked os 7 .any (Rows.textRowsSpec.pre6 enc Try.prog Try.f7 Rows.textRowsRow.domain false) (Rows.textRowsSpec.post enc Try.prog Try.f7 false true false false) := by
  refine returnsInHanded_of_change (C := Try.checked) own started (by kernel_rfl) Try.func7
    (ChangeSpec.witness6 (enc := enc) (C := Try.checked) false ⟨#[], #[.string ByteArray.empty, .slice none 0 0], []⟩ 8 (by kernel_rfl) (by kernel_rfl) (by kernel_rfl) (by kernel_rfl)) ?_
  intro W base args ds gs before hval0 hW hcnd _
  have hval : ∀ (j : Nat) t v, Try.f7.params[j]? = some t → args[j]? = some v → Value.okWide Try.prog W .any base t v := hval0
  have hW' := hW
  obtain ⟨p, q, hA0, hV, rfl, hfz, hnd⟩ := hW
  have hA : DataW.TrodAll enc Try.prog W 0 (fun _ => true) true Try.f7.params.toList args.toList ds p := hA0
  rw [Try.params7] at hA hval
  obtain ⟨v0, vs0, d0, ds0, p0, q0, hargs, rfl, rfl, h0, r0⟩ := trodAll_cons hA
  obtain ⟨v1, vs1, d1, ds1, p1, q1, rfl, rfl, rfl, h1, r1⟩ := trodAll_cons r0
  obtain ⟨rfl, rfl, rfl⟩ := trodAll_nil r1
  obtain rfl : args = #[v0, v1] := by cases args; simp_all
  obtain ⟨rfl, rfl⟩ := trodVars_none hV
  obtain ⟨a0, rfl, rfl, rfl, w0⟩ := open_string Try.underlying9 (hval 0 9 v0 rfl rfl) h0
  obtain ⟨a1, len1, cap1, rfl⟩ := okWide_slice Try.underlying34 (hval 1 34 v1 rfl rfl)
  have k1 := h1
  have lt1 : ∀ x ∈ p1, x.block < W.heap.size := by obtain ⟨m, hm⟩ := k1; exact DataW.trod_lt m _ _ _ hm
  obtain ⟨z1, w1⟩ : ∃ B, IsBools W a1 len1 cap1 B := by
    obtain ⟨fuel, hf⟩ := h1
    rcases Deep.open_bools Try.underlying34 Try.underlying4 (by kernel_rfl) hf with ⟨hcs, _⟩ | ⟨x, l, c, B, hcs, _, hl, hm, _, hcell⟩
    · simp [Value.cells] at hcs
      obtain ⟨rfl, rfl, rfl⟩ := hcs
      exact ⟨fun _ => false, .inl ⟨rfl, rfl, rfl⟩⟩
    · simp [Value.cells] at hcs
      obtain ⟨rfl, rfl, rfl⟩ := hcs
      exact ⟨B, .inr ⟨_, rfl, hl, hm, hcell⟩⟩
  clear hA0 hval0
  refine (walk a0 a1 len1 cap1 z1 W w0 w1).mono fun e W' ⟨he, bel⟩ => ?_
  subst he
  exact ⟨_, rfl, _, _, _, [], _, [], hW', trodAll_mk1 (shut_bool Try.underlying4 _), (trodAll_cons_mk (shut_string Try.underlying9 w0) (trodAll_cons_mk (Below.trod laidOut (by kernel_rfl) (of_decide_eq_true (by kernel_rfl)) k1 bel lt1) trodAll_mk0)), rfl, bel.frame _, fun h => by cases h⟩

theorem over : Rows.textRowsRow.holds Try.pinned (OpenSpec.ofChange Rows.textRowsSpec) :=
  OpenClaim.holds_of_wide 7 Try.f7 rfl rfl rfl rfl rfl rfl rfl ⟨rfl, rfl, rfl, rfl, rfl⟩ rfl rfl rfl rfl rfl (by kernel_rfl) Try.func7 (by kernel_rfl)
    (of_decide_eq_true (by kernel_rfl)) (by unfold Func.isWrapper; first | (rw [if_pos (by decide +kernel)]; kernel_rfl) | (rw [if_neg (by decide +kernel)]; exact ⟨rfl, rfl⟩))
    (fun os started H enc _ => lifted os started H enc)

theorem proved : Rows.TextRowsSaid := over
#print axioms proved
end Go.Proofs.Ytendlhaaehajcaa.textRows

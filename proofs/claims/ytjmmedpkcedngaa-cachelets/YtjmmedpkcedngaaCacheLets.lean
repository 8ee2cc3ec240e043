/- CacheLets (P10.1, P10.3): in a full cache, of whose entries none is over, the one whose until is least is let go, of several the first in the row. -/
import Derived.Test.YtjmmedpkcedngaaB6
import Derived.Test.YtjmmedpkcedngaaRows
import Derived.ProofKit
import Derived.OpenShut
import Derived.ShutString
import Derived.ChangeOld
import Derived.Below
namespace Go.Proofs.Ytjmmedpkcedngaa.cacheLets
open Go.ChangeShapes Go.WideShapes Go.ChangeAt Go.RowKit
open Go.ChangeMaps (open_string shut_string)
set_option linter.unusedVariables false
set_option maxRecDepth 20000

theorem own : ownKnob Try.prog.godebug = none := by kernel_rfl

/-- A row of numbers that came in. -/
def IsRow (k : IntKind) (W : World) (a : Option Addr) (len cap : Nat) (zs : List Int) : Prop :=
  (a = none ∧ len = 0 ∧ cap = 0 ∧ zs = []) ∨ ∃ x : Addr, a = some x ∧ len ≤ cap ∧ cap ≤ maxLen ∧ zs.length = cap ∧ (∀ i, i < zs.length → W.cell? (x.add i) = some (.int k (zs.getD i 0))) ∧ ∀ n ∈ zs, (Lit.int k n).wf = true
set_option maxRecDepth 100000 in
set_option maxHeartbeats 8000000 in
theorem walk (rm : Int) (a : Option Addr) (len cap : Nat) (zs : List Int) (w : World) (hrm : (Lit.int .i64 rm).wf = true) (hI : IsRow .i64 w a len cap zs) :
    Calls Try.prog 5 #[.int .i64 rm, .slice a len cap] w fun e w' => e = .returned (.bool true) ∧ Below w.heap.size w w' := by
  have HNW := Lib.hid (new_any rm w)
  have HRN := fun W => Lib.hid (refNewC_any rm W)
  have hroom : roomC rm = min (max rm 1) 64 := rfl
  obtain ⟨room, hr⟩ : ∃ room, min (max rm 1) 64 = room := ⟨_, rfl⟩
  rw [hroom, hr] at HRN
  rw [hr] at HNW
  have hrb : 1 ≤ room ∧ room ≤ 64 := by omega
  have HII := Lib.hid hI
  have hlen : len ≤ 9223372036854775807 := by
    rcases hI with ⟨_, rfl, _⟩ | ⟨x, _, h1, h2, _⟩
    · decide
    · unfold maxLen at h2; omega
  have HT : Hid (∀ k, k < len → ∃ ad : Addr, a = some ad ∧ w.cell? (ad.add k) = some (.int .i64 (zs.getD k 0)) ∧ (Lit.int .i64 (zs.getD k 0)).wf = true) := Lib.hid (fun k hk => by
    rcases HII.out with ⟨_, h0, _⟩ | ⟨ad, e, h1, h2, h3, h4, h5⟩
    · omega
    · have hkz : k < zs.length := by omega
      exact ⟨ad, e, h4 k hkz, h5 _ (by rw [List.getD_eq_getElem?_getD, List.getElem?_eq_getElem hkz]; exact List.getElem_mem hkz)⟩)
  have HLV := fun W => Lib.hid (lives10_any W)
  have HDC := fun (k : Nat) W (hk : k < 70) => Lib.hid (refDecimal_any (k : Int) W (by omega) (by omega))
  clear hI HII hr hrm hroom
  go_enter Try.func5, Try.ntmps5
  go_wp2_with fail
  refine HNW.out.mono ?_
  rintro e w1 ⟨G, b, rfl, hc1, hG, hb, hb1⟩
  have HC1 := Lib.hid hc1
  have HB1 := Lib.hid hb1
  have HGB : Hid (w.heap.size ≤ b) := Lib.hid hb
  clear HNW hc1 hb1 hG hb
  go_wp2_with fail
  refine (HRN _).out.mono ?_
  rintro e w2 ⟨rfl, hb2⟩
  have HC2 := Lib.hid (HC1.out.below hb2)
  have HB2 := Lib.hid (chain HB1.out hb2)
  clear HRN hb2 HC1 HB1
  have HZ3 : Hid (CellsAt (w2.alloc (.cells zCc.toArray 27)) w2.heap.size zCc) := Lib.hid (CellsAt.new w2 27 zCc)
  have hba : Below w2.heap.size w2 (w2.alloc (.cells zCc.toArray 27)) := (Below.refl _ _).alloc (Nat.le_refl _) _
  have HC3 := Lib.hid (HC2.out.below hba)
  have HB3 := Lib.hid (chain HB2.out hba)
  have HNE : Hid (b ≠ w2.heap.size ∧ G ≠ w2.heap.size) := Lib.hid ⟨by have := HC2.out.lt.2; omega, by have := HC2.out.lt.1; omega⟩
  have HPW : Hid (w.heap.size ≤ w2.heap.size) := Lib.hid HB2.out.size
  clear hba
  unfold ccV
  go_upto_region 5 with (first | (refine store_cc HZ3 rfl _ _ rfl rfl rfl rfl rfl rfl (fun W4 HW4 HP4 => ?_)))
  have HC4 : Hid (CacAt W4 G b room []) := Lib.hid (by rw [HW4.out]; exact HC3.out.setsAt HNE.out.1 HNE.out.2)
  have HB4 : Hid (Below w.heap.size w W4) := Lib.hid (by rw [HW4.out]; exact below_cells HPW.out _ _ _ HB3.out)
  generalize w2.heap.size = P6 at *
  clear HW4 HC2 HB2 HC3 HB3 HZ3
  go_wp2_with fail
  go_loopw [7, 8, 9, 10, 11, 12, 13, 14, 15, 16] (fun i s8 s9 s10 s11 s12 s13 s14 s15 s16 wr => ∃ (k : Nat) (ps : List Cp) (v : Value), k ≤ len ∧ k ≤ 70 ∧ i = .int .i64 (k : Int) ∧ Hid (CacAt wr G b room (lE ps)) ∧ Hid (RowC wr 0 v (lF ps)) ∧ Hid (LS k ps) ∧ Hid (CellsAt wr P6 [.int .i64 room, v]) ∧ Hid (Below w.heap.size w wr)) (fun i _ _ _ _ _ _ _ _ _ _ => 70 - (intOf i).toNat)
  case atStart => exact ⟨0, [], .slice none 0 0, Nat.zero_le _, Nat.zero_le _, rfl, HC4, Lib.hid (RowC.nil _ _), Lib.hid (fun p hp => by cases hp), HP4, HB4⟩
  case round =>
    clear HC4 HP4 HB4
    obtain ⟨k, ps, v, hk, hk70, rfl, HC, HR, HLS, HP, HB⟩ := hrel
    by_cases hkn : k < len ∧ k < 70
    · obtain ⟨hkl, hk7⟩ := hkn
      have hd : decide ((k : Int) < (len : Int)) = true := decide_eq_true (by omega)
      have hdn : decide (k < len) = true := decide_eq_true hkl
      have hd7 : decide ((k : Int) < 70) = true := decide_eq_true (by omega)
      have hd7n : decide (k < 70) = true := decide_eq_true hk7
      obtain ⟨ad, rfl, hcw, hzw⟩ := HT.out k hkl
      have hcell : wr.cell? (ad.add k) = some (.int .i64 (zs.getD k 0)) := by rw [HB.out.cell (p := ad.add k) (World.block_lt_of_cell? w (ad.add k) hcw)]; exact hcw
      have HAR := fun W => Lib.hid (around_any (zs.getD k 0) 100000 W hzw (by decide) (by decide))
      have hal := aroundN_lt (zs.getD k 0) 100000 (by decide)
      have HDK := fun W => HDC k W hk7
      have hedc : (⟨(Lib.itoa (k : Int)).toArray⟩ : ByteArray) = dc k := rfl
      rw [hedc] at HDK
      have hb1 : (0 : Int) ≤ (k : Int) := by omega
      have hb2 : (k : Int) < (len : Int) := by omega
      generalize zs.getD k 0 = z at *
      generalize aroundN z 100000 = y at *
      obtain ⟨q, hq⟩ : ∃ q : Int, 1 + (y : Int) = q := ⟨_, rfl⟩
      have hw : IntKind.i64.wrap (1 + (y : Int)) = q := by rw [IntKind.wrap_i64]; omega
      have hqb : 1 ≤ q ∧ q ≤ 100000 := by omega
      have hmq : (0 : Int) + min q 604800 = q := by omega
      have hdc := dc_facts k hk7
      have HPL := Lib.hid (fun W (hc : CacAt W G b room (lE ps)) => put_any G b room (lE ps) (dc k) 1 q 0 none 0 [] W hc (by omega) (by decide) hqb.1 (by decide) (by decide) (AdsIn.nil W) (by decide))
      have hpl : ps.length ≤ 64 := by have := HC.out.le; rw [lE_len] at this; omega
      have HPR := Lib.hid (fun W (hc : RowC W 0 v (lF ps)) => refPutC_any room v (lF ps) (dc k) 1 q 0 none 0 0 W 0 hc (by omega) hqb.1 (by decide) (by decide) (by rw [lF_len]; omega) hrb.1)
      rw [hdc.1, hmq] at HPL HPR
      simp only [List.length_nil] at HPL
      obtain ⟨n, hn⟩ : ∃ n, ps.length = n := ⟨_, rfl⟩
      have HN := Lib.hid hn
      obtain ⟨fb, hfb⟩ : ∃ fb, decide ((n : Int) = room) = fb := ⟨_, rfl⟩
      have hfb2 : ((n : Int) == room) = fb := by rw [← hfb]; rfl
      have hfs := ls_no HLS.out hk7
      have hlf := lets_full (room := room) (own := ⟨dc k, 1, none, 0, 0, q⟩) hfs (fun e he => by obtain ⟨p, hp, rfl⟩ := mem_lF he; exact (HLS.out p hp).2.2.1) hrb.1
      have hfl : fb = true → ((lF ps).length : Int) = room := fun h => by rw [lF_len, hn]; rw [h] at hfb; exact of_decide_eq_true hfb
      have hso : (putC room (lF ps) ⟨dc k, 1, none, 0, 0, q⟩ 0).2.isSome = fb := by rw [hlf.1, lF_len, hn, hfb]
      have HLST : Hid (fb = true → ∀ j (hj : j < (lF ps).length), decide ((lF ps)[j].u < ((putC room (lF ps) ⟨dc k, 1, none, 0, 0, q⟩ 0).2.getD noCe).u) = false ∧ ((lF ps)[j].u = ((putC room (lF ps) ⟨dc k, 1, none, 0, 0, q⟩ 0).2.getD noCe).u → ltB (lF ps)[j].s ((putC room (lF ps) ⟨dc k, 1, none, 0, 0, q⟩ 0).2.getD noCe).s = false)) := Lib.hid (fun h => hlf.2 (hfl h) (sorted_tw HLS.out.tw HC.out.so) (fun e he => by obtain ⟨p, hp, rfl⟩ := mem_lF he; exact (HLS.out p hp).2.1))
      have HBP := Lib.hid (both_put room HLS.out.tw)
      obtain ⟨PF, hPF⟩ : ∃ PF, putC room (lF ps) ⟨dc k, 1, none, 0, 0, q⟩ 0 = PF := ⟨_, rfl⟩
      have HPF := Lib.hid hPF
      rw [hPF] at HPR HLST hso
      obtain ⟨ge, hge⟩ : ∃ ge, PF.2.getD noCe = ge := ⟨_, rfl⟩
      have HGE := Lib.hid hge
      rw [hge] at HLST HPR
      rw [hso] at HPR
      obtain ⟨ad0, c0, rfl⟩ := HR.out.slice
      have hln : (lF ps).length = n := by rw [lF_len, hn]
      rw [hln] at HP HR HPR
      have h60 := HP.out.cell 0 _ rfl
      have h61 := HP.out.cell 1 _ rfl
      clear hPF hge hlf hn hcw hq hfl
      go_wp2_with fail
      refine (HAR _).out.mono ?_
      rintro e w4 ⟨rfl, rfl⟩
      clear HAR hcell h60 h61
      go_wp2_with fail
      refine (HDK _).out.mono ?_
      rintro e w5 ⟨rfl, hb5⟩
      replace HC := Lib.hid (HC.out.below hb5)
      replace HR := Lib.hid (HR.out.below hb5)
      replace HP := Lib.hid (HP.out.below hb5)
      replace HB := Lib.hid (chain HB.out hb5)
      have HPR5 := Lib.hid (HPR.out w5 HR.out)
      have h60 := HP.out.cell 0 _ rfl
      have h61 := HP.out.cell 1 _ rfl
      clear hb5 HDK HPR
      go_wp2_with (first | refine load_cc HP rfl _ rfl rfl rfl ?_)
      refine HPR5.out.mono ?_
      rintro e w6 ⟨v6, rfl, hr6, hb6⟩
      replace HC := Lib.hid (HC.out.below hb6)
      replace HR := Lib.hid (HR.out.below hb6)
      replace HP := Lib.hid (HP.out.below hb6)
      replace HB := Lib.hid (chain HB.out hb6)
      obtain ⟨ad6, c6, rfl⟩ := hr6.slice
      obtain ⟨n6, hn6⟩ : ∃ n6, PF.1.length = n6 := ⟨_, rfl⟩
      have HN6 := Lib.hid hn6
      rw [hn6] at hr6 ⊢
      have HR6 := Lib.hid hr6
      clear hn6
      clear hb6 hr6 HPR5 h60 h61
      -- the two variables of the answer
      have HZC : Hid (CellsAt ((w6.alloc (.cells zCc.toArray 27)).alloc (.cells zCe.toArray 41)) w6.heap.size zCc) := Lib.hid ((CellsAt.new w6 27 zCc).below ((Below.refl _ _).alloc (Nat.le_refl _) _))
      have HZE : Hid (CellsAt ((w6.alloc (.cells zCc.toArray 27)).alloc (.cells zCe.toArray 41)) (w6.heap.size + 1) zCe) := Lib.hid (by
        have := CellsAt.new (w6.alloc (.cells zCc.toArray 27)) 41 zCe
        simpa using this)
      have hba : Below w6.heap.size w6 ((w6.alloc (.cells zCc.toArray 27)).alloc (.cells zCe.toArray 41)) := ((Below.refl _ _).alloc (Nat.le_refl _) _).alloc (by simp) _
      have HL6 : Hid (G < w6.heap.size ∧ b < w6.heap.size ∧ P6 < w6.heap.size ∧ (∀ g, (Value.slice ad0 n c0).ownBlock = some g → g < w6.heap.size) ∧ (∀ g, (Value.slice ad6 n6 c6).ownBlock = some g → g < w6.heap.size)) := Lib.hid ⟨HC.out.lt.1, HC.out.lt.2, HP.out.lt, fun g hg => (HR.out.1.lt g hg).2, fun g hg => (HR6.out.1.lt g hg).2⟩
      have HWL : Hid (w.heap.size ≤ w6.heap.size) := Lib.hid HB.out.size
      replace HC := Lib.hid (HC.out.below hba)
      replace HR := Lib.hid (HR.out.below hba)
      replace HP := Lib.hid (HP.out.below hba)
      replace HB := Lib.hid (chain HB.out hba)
      replace HR6 := Lib.hid (HR6.out.below hba)
      clear hba
      go_upto_region 12 with (first | (refine store_cc HZC rfl _ _ rfl rfl rfl rfl rfl rfl (fun W7 HW7 HX7 => ?_); have HE7 : Hid (CellsAt W7 (w6.heap.size + 1) zCe) := Lib.hid (by rw [HW7.out]; exact HZE.out.apart (by omega) _)) | (refine store_ce HE7 rfl _ _ rfl rfl rfl (vs := ceL ge) rfl rfl rfl (fun W8 HW8 HE8 => ?_)))
      have HX8 : Hid (CellsAt W8 w6.heap.size [.int .i64 room, .slice ad6 n6 c6]) := Lib.hid (by rw [HW8.out]; exact HX7.out.apart (by omega) _)
      have HC8 : Hid (CacAt W8 G b room (lE ps)) := Lib.hid (by
        have := HL6.out
        rw [HW8.out, HW7.out]
        exact (HC.out.setsAt (by omega) (by omega)).setsAt (by omega) (by omega))
      have HR8 : Hid (RowC W8 0 (.slice ad0 n c0) (lF ps)) := Lib.hid (by
        rw [HW8.out, HW7.out]
        exact (HR.out.setsAt (fun g hg => by have := HL6.out.2.2.2.1 g hg; omega)).setsAt (fun g hg => by have := HL6.out.2.2.2.1 g hg; omega))
      have HS8 : Hid (RowC W8 0 (.slice ad6 n6 c6) PF.1) := Lib.hid (by
        rw [HW8.out, HW7.out]
        exact (HR6.out.setsAt (fun g hg => by have := HL6.out.2.2.2.2 g hg; omega)).setsAt (fun g hg => by have := HL6.out.2.2.2.2 g hg; omega))
      have HP8 : Hid (CellsAt W8 P6 [.int .i64 room, .slice ad0 n c0]) := Lib.hid (by
        have := HL6.out
        rw [HW8.out, HW7.out]
        exact (HP.out.apart (by omega) _).apart (by omega) _)
      have HB8 : Hid (Below w.heap.size w W8) := Lib.hid (by
        have := HWL.out
        rw [HW8.out, HW7.out]
        exact below_cells (by omega) _ _ _ (below_cells (by omega) _ _ _ HB.out))
      have HN8 : Hid (b ≠ w6.heap.size ∧ b ≠ w6.heap.size + 1 ∧ P6 ≠ w6.heap.size) := Lib.hid (by have := HL6.out; omega)
      generalize w6.heap.size = P11 at *
      clear HW7 HW8 HX7 HE7 HZC HZE HC HR HP HB HR6 HL6
      have HPL8 := Lib.hid (HPL.out W8 HC8.out)
      clear HPL
      go_wp2_with fail
      refine HPL8.out.mono ?_
      rintro e w9 ⟨a9, c9, rfl, hc9, _, hg9⟩
      have hn64 : n ≤ 64 := by have := HN.out; omega
      obtain ⟨rs, e1, e2, hrs, hsm, hky⟩ := HBP.out ⟨dc k, 1, a9, 0, c9, q⟩ ⟨dc k, 1, none, 0, 0, q⟩ ⟨rfl, rfl, rfl⟩ 0
      have HCONS := Lib.hid (lF_cons (own1 := noCe) e2)
      rw [HPF.out] at e2 hsm hky
      rw [hso] at hsm
      rw [HGE.out] at hky
      rw [e1] at hc9
      rw [hsm, hky]
      have HC9 := Lib.hid hc9
      have HLS2 : Hid (LS (k + 1) rs) := Lib.hid (ls_next HLS.out ⟨rfl, rfl, rfl⟩ rfl hqb.1 rfl hrs)
      have hnm := HR8.out.notMap HC8.out.mp
      have hnm2 := HS8.out.notMap HC8.out.mp
      have HR9 : Hid (RowC w9 0 (.slice ad6 n6 c6) (lF rs)) := Lib.hid (by
        rw [← e2]
        refine HS8.out.kept hg9 ?_
        cases ho : (Value.slice ad6 n6 c6).ownBlock with
        | none => exact .inl rfl
        | some g => exact .inr (fun e => hnm2 g ho (by injection e)))
      have HO9 : Hid (RowC w9 0 (.slice ad0 n c0) (lF ps)) := Lib.hid (by
        refine HR8.out.kept hg9 ?_
        cases ho : (Value.slice ad0 n c0).ownBlock with
        | none => exact .inl rfl
        | some g => exact .inr (fun e => hnm g ho (by injection e)))
      have HP9 := Lib.hid (HP8.out.grown hg9 HNE.out.1.symm)
      have HX9 := Lib.hid (HX8.out.grown hg9 HN8.out.1.symm)
      have HE9 := Lib.hid (HE8.out.grown hg9 HN8.out.2.1.symm)
      have HB9 := Lib.hid (Below.cacheOp HB8.out hg9 HGB.out HB8.out.size)
      have HLR : Hid ((lE rs).length = n6) := Lib.hid (by rw [lE_len, ← lF_len, ← e2]; exact HN6.out)
      clear hc9 hg9 hrs hsm hky e1 e2 hnm hnm2 HC8 HR8 HS8 HP8 HX8 HE8 HB8 HPL8 HBP
      have HZK : Hid (CellsAt (w9.alloc (.cells #[.string ⟨#[]⟩, .int .i64 0] 39)) w9.heap.size (keyL noKey)) := Lib.hid (CellsAt.new w9 39 (keyL noKey))
      have hba : Below w9.heap.size w9 (w9.alloc (.cells #[.string ⟨#[]⟩, .int .i64 0] 39)) := (Below.refl _ _).alloc (Nat.le_refl _) _
      have HL9 : Hid (G < w9.heap.size ∧ b < w9.heap.size ∧ P6 < w9.heap.size ∧ P11 < w9.heap.size ∧ P11 + 1 < w9.heap.size ∧ (∀ g, (Value.slice ad0 n c0).ownBlock = some g → g < w9.heap.size) ∧ (∀ g, (Value.slice ad6 n6 c6).ownBlock = some g → g < w9.heap.size)) := Lib.hid ⟨HC9.out.lt.1, HC9.out.lt.2, HP9.out.lt, HX9.out.lt, HE9.out.lt, fun g hg => (HO9.out.1.lt g hg).2, fun g hg => (HR9.out.1.lt g hg).2⟩
      have HWL9 : Hid (w.heap.size ≤ w9.heap.size) := Lib.hid HB9.out.size
      replace HC9 := Lib.hid (HC9.out.below hba)
      replace HR9 := Lib.hid (HR9.out.below hba)
      replace HO9 := Lib.hid (HO9.out.below hba)
      replace HP9 := Lib.hid (HP9.out.below hba)
      replace HX9 := Lib.hid (HX9.out.below hba)
      replace HE9 := Lib.hid (HE9.out.below hba)
      replace HB9 := Lib.hid (chain HB9.out hba)
      clear hba
      go_upto_region 13 with (first | (refine store_key HZK _ _ rfl rfl rfl rfl (fun W10 HW10 HK10 => ?_)))
      have HC10 : Hid (CacAt W10 G b room (lE rs)) := Lib.hid (by have := HL9.out; rw [HW10.out]; exact HC9.out.setsAt (by omega) (by omega))
      have HR10 : Hid (RowC W10 0 (.slice ad6 n6 c6) (lF rs)) := Lib.hid (by rw [HW10.out]; exact HR9.out.setsAt (fun g hg => by have := HL9.out.2.2.2.2.2.2 g hg; omega))
      have HO10 : Hid (RowC W10 0 (.slice ad0 n c0) (lF ps)) := Lib.hid (by rw [HW10.out]; exact HO9.out.setsAt (fun g hg => by have := HL9.out.2.2.2.2.2.1 g hg; omega))
      have HP10 : Hid (CellsAt W10 P6 [.int .i64 room, .slice ad0 n c0]) := Lib.hid (by have := HL9.out; rw [HW10.out]; exact HP9.out.apart (by omega) _)
      have HX10 : Hid (CellsAt W10 P11 [.int .i64 room, .slice ad6 n6 c6]) := Lib.hid (by have := HL9.out; rw [HW10.out]; exact HX9.out.apart (by omega) _)
      have HE10 : Hid (CellsAt W10 (P11 + 1) (ceL ge)) := Lib.hid (by have := HL9.out; rw [HW10.out]; exact HE9.out.apart (by omega) _)
      have HB10 : Hid (Below w.heap.size w W10) := Lib.hid (by rw [HW10.out]; exact below_cells HWL9.out _ _ _ HB9.out)
      have HFAR : Hid (∀ g, (Value.slice ad6 n6 c6).ownBlock = some g → g ≠ P6) := Lib.hid (by
        obtain ⟨e, es, he⟩ := HCONS.out
        have hr := HR10.out
        rw [he] at hr
        exact hr.notCell (HP10.out.cell 0 _ rfl) (fun s h => by cases h))
      have h140 : W10.cell? ⟨w9.heap.size, 0, none⟩ = some (Value.string ge.s) := HK10.out.cell 0 _ rfl
      have h120 := HE10.out.cell 0 _ rfl
      generalize w9.heap.size = P14 at *
      clear HW10 HC9 HR9 HO9 HP9 HX9 HE9 HB9 HZK HL9 HCONS HWL9
      have hbb : (fb != fb) = false := by simp
      have HROW : Hid (∀ jj (hj : jj < (lF ps).length) W, Below W10.heap.size W10 W → ∃ g, ad0 = some ⟨g, 0, none⟩ ∧ W.rangeAt g (jj * 4) (ceL (lF ps)[jj])) := Lib.hid (fun jj hj W hb => by
        rcases (HO10.out.below hb).form with ⟨_, h⟩ | ⟨g, cap, e, _, _, _, _, hr⟩
        · rw [h] at hj; exact absurd hj (by simp)
        · injection e with e1 e2 e3
          have := range_ce hr jj hj
          rw [Nat.zero_add] at this
          exact ⟨g, e1, this⟩)
      have HM1 : Hid (∀ W, Below W10.heap.size W10 W → W.cell? ⟨P6, 1, none⟩ = some (.slice ad0 n c0)) := Lib.hid (fun W hb => (HP10.out.below hb).cell 1 _ rfl)
      have HCE : Hid (∀ W, Below W10.heap.size W10 W → W.rangeAt (P11 + 1) 0 (ceL ge)) := Lib.hid (fun W hb => (HE10.out.below hb).range)
      clear HO10 HE10 HK10
      go_wp2_with fail
      go_loopw [16] (fun j wx => ∃ jj : Nat, jj ≤ n ∧ j = .int .i64 (jj : Int) ∧ Hid (Below W10.heap.size W10 wx)) (fun j _ => n - (intOf j).toNat)
      case atStart => exact ⟨0, Nat.zero_le _, rfl, Lib.hid (Below.refl _ _)⟩
      case round =>
        clear h140 h120
        obtain ⟨jj, hjj, rfl, HBX⟩ := hrel
        have h61 := HM1.out _ HBX.out
        by_cases hjn : jj < n
        · have hdj : decide ((jj : Int) < (n : Int)) = true := decide_eq_true (by omega)
          have hdjn : decide (jj < n) = true := decide_eq_true hjn
          cases fb with
          | true =>
            have hjl : jj < (lF ps).length := by rw [hln]; exact hjn
            obtain ⟨g, rfl, _⟩ := HROW.out jj hjl _ HBX.out
            have HRW : Hid (∀ W, Below W10.heap.size W10 W → W.rangeAt g (jj * 4) (ceL (lF ps)[jj])) := Lib.hid (fun W hb => by
              obtain ⟨g2, e, h⟩ := HROW.out jj hjl W hb
              injection e with e
              injection e with e _ _
              rw [e]; exact h)
            obtain ⟨hlt, hlq⟩ := HLST.out rfl jj hjl
            have hj1 : (0 : Int) ≤ (jj : Int) := by omega
            have hj2 : (jj : Int) < (n : Int) := by omega
            generalize (lF ps)[jj] = ee at *
            obtain ⟨S, hS⟩ : ∃ S : World → Prop, (fun W => Below W10.heap.size W10 W) = S := ⟨_, rfl⟩
            have HSO : Hid (∀ W, S W → Below W10.heap.size W10 W) := Lib.hid (fun W h => by rw [← hS] at h; exact h)
            have HSS : Hid (S wr.drew) := Lib.hid (by rw [← hS]; exact HBX.out.drew)
            have MP1 : Hid (∀ W, S W → W.cell? ⟨P6, 1, none⟩ = some (.slice (some ⟨g, 0, none⟩) n c0)) := Lib.hid (fun W h => HM1.out W (HSO.out W h))
            have ME3 : Hid (∀ W, S W → W.cell? ⟨g, jj * 4 + 3, none⟩ = some (.int .i64 ee.u)) := Lib.hid (fun W h => by have := HRW.out W (HSO.out W h) 3 _ rfl; simpa using this)
            have ME0 : Hid (∀ W, S W → W.cell? ⟨g, jj * 4, none⟩ = some (.string ee.s)) := Lib.hid (fun W h => by have := HRW.out W (HSO.out W h) 0 _ rfl; simpa using this)
            have MG3 : Hid (∀ W, S W → W.cell? ⟨P11 + 1, 3, none⟩ = some (.int .i64 ge.u)) := Lib.hid (fun W h => by have := HCE.out W (HSO.out W h) 3 _ rfl; simpa using this)
            have MG0 : Hid (∀ W, S W → W.cell? ⟨P11 + 1, 0, none⟩ = some (.string ge.s)) := Lib.hid (fun W h => by have := HCE.out W (HSO.out W h) 0 _ rfl; simpa using this)
            clear hS HRW HBX
            by_cases heq : ee.u = ge.u
            · have hls := hlq heq
              unfold ltB at hls
              have hq1 : (ee.u == ge.u) = true := by rw [heq]; simp
              have hq2 : decide (ee.u = ge.u) = true := decide_eq_true heq
              generalize ee.u = eu at *
              generalize ge.u = gu at *
              generalize ee.s = en at *
              generalize ge.s = gn at *
              go_upto_region 18 with fail
              refine wp_region_noPanic ?_
              refine wp_region_held_drew (S := S) (by kernel_rfl) HSS.out (fun hHeld => ?_)
              refine wpAnyH_take (i := 0) (v := ?_) rfl (by kernel_rfl) (by kernel_rfl) (by kernel_rfl) (fun _ _ _ h => h) (Or.inl ⟨by rfl, ?_⟩) (by assumption) ?_
              rotate_left
              · (intro w hSw; go_simp; try (with_reducible rfl))
              try simp only [Act.put, List.getElem_toArray, List.getElem_cons_zero, List.setIfInBounds_toArray, List.set_cons_zero, List.set_cons_succ]
              refine wpAnyH_take (i := 1) (v := ?_) rfl (by kernel_rfl) (by kernel_rfl) (by kernel_rfl) (fun _ _ _ h => h) (Or.inl ⟨by rfl, ?_⟩) (by assumption) ?_
              rotate_left
              · (intro w hSw; have hc0 := MP1.out w hSw; go_simp; try (with_reducible rfl))
              try simp only [Act.put, List.getElem_toArray, List.getElem_cons_zero, List.getElem_cons_succ, List.setIfInBounds_toArray, List.set_cons_zero, List.set_cons_succ]
              refine wpAnyH_take (i := 2) (v := ?_) rfl (by kernel_rfl) (by kernel_rfl) (by kernel_rfl) (fun _ _ _ h => h) (Or.inl ⟨by rfl, ?_⟩) (by assumption) ?_
              rotate_left
              · (intro w hSw; go_simp; try (with_reducible rfl))
              try simp only [Act.put, List.getElem_toArray, List.getElem_cons_zero, List.getElem_cons_succ, List.setIfInBounds_toArray, List.set_cons_zero, List.set_cons_succ]
              refine wpAnyH_take (i := 3) (v := ?_) rfl (by kernel_rfl) (by kernel_rfl) (by kernel_rfl) (fun _ _ _ h => h) (Or.inl ⟨by rfl, ?_⟩) (by assumption) ?_
              rotate_left
              · (intro w hSw; go_simp; try (with_reducible rfl))
              try simp only [Act.put, List.getElem_toArray, List.getElem_cons_zero, List.getElem_cons_succ, List.setIfInBounds_toArray, List.set_cons_zero, List.set_cons_succ]
              refine wpAnyH_take (i := 4) (v := ?_) rfl (by kernel_rfl) (by kernel_rfl) (by kernel_rfl) (fun _ _ _ h => h) (Or.inl ⟨by rfl, ?_⟩) (by assumption) ?_
              rotate_left
              · (intro w hSw; go_simp; try (with_reducible rfl))
              try simp only [Act.put, List.getElem_toArray, List.getElem_cons_zero, List.getElem_cons_succ, List.setIfInBounds_toArray, List.set_cons_zero, List.set_cons_succ]
              refine wpAnyH_take (i := 5) (v := ?_) rfl (by kernel_rfl) (by kernel_rfl) (by kernel_rfl) (fun _ _ _ h => h) (Or.inl ⟨by rfl, ?_⟩) (by assumption) ?_
              rotate_left
              · (intro w hSw; have hc0 := ME3.out w hSw; go_simp; try (with_reducible rfl))
              try simp only [Act.put, List.getElem_toArray, List.getElem_cons_zero, List.getElem_cons_succ, List.setIfInBounds_toArray, List.set_cons_zero, List.set_cons_succ]
              refine wpAnyH_take (i := 6) (v := ?_) rfl (by kernel_rfl) (by kernel_rfl) (by kernel_rfl) (fun _ _ _ h => h) (Or.inl ⟨by rfl, ?_⟩) (by assumption) ?_
              rotate_left
              · (intro w hSw; go_simp; try (with_reducible rfl))
              try simp only [Act.put, List.getElem_toArray, List.getElem_cons_zero, List.getElem_cons_succ, List.setIfInBounds_toArray, List.set_cons_zero, List.set_cons_succ]
              refine wpAnyH_take (i := 7) (v := ?_) rfl (by kernel_rfl) (by kernel_rfl) (by kernel_rfl) (fun _ _ _ h => h) (Or.inl ⟨by rfl, ?_⟩) (by assumption) ?_
              rotate_left
              · (intro w hSw; have hc0 := MG3.out w hSw; go_simp; try (with_reducible rfl))
              try simp only [Act.put, List.getElem_toArray, List.getElem_cons_zero, List.getElem_cons_succ, List.setIfInBounds_toArray, List.set_cons_zero, List.set_cons_succ]
              refine wpAnyH_take (i := 8) (v := ?_) rfl (by kernel_rfl) (by kernel_rfl) (by kernel_rfl) (fun _ _ _ h => h) (Or.inl ⟨by rfl, ?_⟩) (by assumption) ?_
              rotate_left
              · (intro w hSw; go_simp; try (with_reducible rfl))
              try simp only [Act.put, List.getElem_toArray, List.getElem_cons_zero, List.getElem_cons_succ, List.setIfInBounds_toArray, List.set_cons_zero, List.set_cons_succ]
              refine wpAnyH_take (i := 9) (v := ?_) rfl (by kernel_rfl) (by kernel_rfl) (by kernel_rfl) (fun _ _ _ h => h) (Or.inl ⟨by rfl, ?_⟩) (by assumption) ?_
              rotate_left
              · (intro w hSw; go_simp; try (with_reducible rfl))
              try simp only [Act.put, List.getElem_toArray, List.getElem_cons_zero, List.getElem_cons_succ, List.setIfInBounds_toArray, List.set_cons_zero, List.set_cons_succ]
              refine wpAnyH_take (i := 10) (v := ?_) rfl (by kernel_rfl) (by kernel_rfl) (by kernel_rfl) (fun _ _ _ h => h) (Or.inl ⟨by rfl, ?_⟩) (by assumption) ?_
              rotate_left
              · (intro w hSw; go_simp; try (with_reducible rfl))
              try simp only [Act.put, List.getElem_toArray, List.getElem_cons_zero, List.getElem_cons_succ, List.setIfInBounds_toArray, List.set_cons_zero, List.set_cons_succ]
              refine wpAnyH_take (i := 11) (v := ?_) rfl (by kernel_rfl) (by kernel_rfl) (by kernel_rfl) (fun _ _ _ h => h) (Or.inl ⟨by rfl, ?_⟩) (by assumption) ?_
              rotate_left
              · (intro w hSw; have hc0 := MP1.out w hSw; go_simp; try (with_reducible rfl))
              try simp only [Act.put, List.getElem_toArray, List.getElem_cons_zero, List.getElem_cons_succ, List.setIfInBounds_toArray, List.set_cons_zero, List.set_cons_succ]
              refine wpAnyH_take (i := 12) (v := ?_) rfl (by kernel_rfl) (by kernel_rfl) (by kernel_rfl) (fun _ _ _ h => h) (Or.inl ⟨by rfl, ?_⟩) (by assumption) ?_
              rotate_left
              · (intro w hSw; go_simp; try (with_reducible rfl))
              try simp only [Act.put, List.getElem_toArray, List.getElem_cons_zero, List.getElem_cons_succ, List.setIfInBounds_toArray, List.set_cons_zero, List.set_cons_succ]
              refine wpAnyH_take (i := 13) (v := ?_) rfl (by kernel_rfl) (by kernel_rfl) (by kernel_rfl) (fun _ _ _ h => h) (Or.inl ⟨by rfl, ?_⟩) (by assumption) ?_
              rotate_left
              · (intro w hSw; go_simp; try (with_reducible rfl))
              try simp only [Act.put, List.getElem_toArray, List.getElem_cons_zero, List.getElem_cons_succ, List.setIfInBounds_toArray, List.set_cons_zero, List.set_cons_succ]
              refine wpAnyH_take (i := 14) (v := ?_) rfl (by kernel_rfl) (by kernel_rfl) (by kernel_rfl) (fun _ _ _ h => h) (Or.inl ⟨by rfl, ?_⟩) (by assumption) ?_
              rotate_left
              · (intro w hSw; go_simp; try (with_reducible rfl))
              try simp only [Act.put, List.getElem_toArray, List.getElem_cons_zero, List.getElem_cons_succ, List.setIfInBounds_toArray, List.set_cons_zero, List.set_cons_succ]
              refine wpAnyH_take (i := 15) (v := ?_) rfl (by kernel_rfl) (by kernel_rfl) (by kernel_rfl) (fun _ _ _ h => h) (Or.inl ⟨by rfl, ?_⟩) (by assumption) ?_
              rotate_left
              · (intro w hSw; have hc0 := ME3.out w hSw; go_simp; try (with_reducible rfl))
              try simp only [Act.put, List.getElem_toArray, List.getElem_cons_zero, List.getElem_cons_succ, List.setIfInBounds_toArray, List.set_cons_zero, List.set_cons_succ]
              refine wpAnyH_take (i := 16) (v := ?_) rfl (by kernel_rfl) (by kernel_rfl) (by kernel_rfl) (fun _ _ _ h => h) (Or.inl ⟨by rfl, ?_⟩) (by assumption) ?_
              rotate_left
              · (intro w hSw; go_simp; try (with_reducible rfl))
              try simp only [Act.put, List.getElem_toArray, List.getElem_cons_zero, List.getElem_cons_succ, List.setIfInBounds_toArray, List.set_cons_zero, List.set_cons_succ]
              refine wpAnyH_take (i := 17) (v := ?_) rfl (by kernel_rfl) (by kernel_rfl) (by kernel_rfl) (fun _ _ _ h => h) (Or.inl ⟨by rfl, ?_⟩) (by assumption) ?_
              rotate_left
              · (intro w hSw; have hc0 := MG3.out w hSw; go_simp; try (with_reducible rfl))
              try simp only [Act.put, List.getElem_toArray, List.getElem_cons_zero, List.getElem_cons_succ, List.setIfInBounds_toArray, List.set_cons_zero, List.set_cons_succ]
              refine wpAnyH_take (i := 18) (v := ?_) rfl (by kernel_rfl) (by kernel_rfl) (by kernel_rfl) (fun _ _ _ h => h) (Or.inl ⟨by rfl, ?_⟩) (by assumption) ?_
              rotate_left
              · (intro w hSw; go_simp; try (with_reducible rfl))
              try simp only [Act.put, List.getElem_toArray, List.getElem_cons_zero, List.getElem_cons_succ, List.setIfInBounds_toArray, List.set_cons_zero, List.set_cons_succ]
              refine wpAnyH_take (i := 19) (v := ?_) rfl (by kernel_rfl) (by kernel_rfl) (by kernel_rfl) (fun _ _ _ h => h) (Or.inl ⟨by rfl, ?_⟩) (by assumption) ?_
              rotate_left
              · (intro w hSw; go_simp; try (with_reducible rfl))
              try simp only [Act.put, List.getElem_toArray, List.getElem_cons_zero, List.getElem_cons_succ, List.setIfInBounds_toArray, List.set_cons_zero, List.set_cons_succ]
              refine wpAnyH_take (i := 20) (v := ?_) rfl (by kernel_rfl) (by kernel_rfl) (by kernel_rfl) (fun _ _ _ h => h) (Or.inl ⟨by rfl, ?_⟩) (by assumption) ?_
              rotate_left
              · (intro w hSw; go_simp; try (with_reducible rfl))
              try simp only [Act.put, List.getElem_toArray, List.getElem_cons_zero, List.getElem_cons_succ, List.setIfInBounds_toArray, List.set_cons_zero, List.set_cons_succ]
              refine wpAnyH_take (i := 21) (v := ?_) rfl (by kernel_rfl) (by kernel_rfl) (by kernel_rfl) (fun _ _ _ h => h) (Or.inl ⟨by rfl, ?_⟩) (by assumption) ?_
              rotate_left
              · (intro w hSw; have hc0 := MP1.out w hSw; go_simp; try (with_reducible rfl))
              try simp only [Act.put, List.getElem_toArray, List.getElem_cons_zero, List.getElem_cons_succ, List.setIfInBounds_toArray, List.set_cons_zero, List.set_cons_succ]
              refine wpAnyH_take (i := 22) (v := ?_) rfl (by kernel_rfl) (by kernel_rfl) (by kernel_rfl) (fun _ _ _ h => h) (Or.inl ⟨by rfl, ?_⟩) (by assumption) ?_
              rotate_left
              · (intro w hSw; go_simp; try (with_reducible rfl))
              try simp only [Act.put, List.getElem_toArray, List.getElem_cons_zero, List.getElem_cons_succ, List.setIfInBounds_toArray, List.set_cons_zero, List.set_cons_succ]
              refine wpAnyH_take (i := 23) (v := ?_) rfl (by kernel_rfl) (by kernel_rfl) (by kernel_rfl) (fun _ _ _ h => h) (Or.inl ⟨by rfl, ?_⟩) (by assumption) ?_
              rotate_left
              · (intro w hSw; go_simp; try (with_reducible rfl))
              try simp only [Act.put, List.getElem_toArray, List.getElem_cons_zero, List.getElem_cons_succ, List.setIfInBounds_toArray, List.set_cons_zero, List.set_cons_succ]
              refine wpAnyH_take (i := 24) (v := ?_) rfl (by kernel_rfl) (by kernel_rfl) (by kernel_rfl) (fun _ _ _ h => h) (Or.inl ⟨by rfl, ?_⟩) (by assumption) ?_
              rotate_left
              · (intro w hSw; go_simp; try (with_reducible rfl))
              try simp only [Act.put, List.getElem_toArray, List.getElem_cons_zero, List.getElem_cons_succ, List.setIfInBounds_toArray, List.set_cons_zero, List.set_cons_succ]
              refine wpAnyH_take (i := 25) (v := ?_) rfl (by kernel_rfl) (by kernel_rfl) (by kernel_rfl) (fun _ _ _ h => h) (Or.inl ⟨by rfl, ?_⟩) (by assumption) ?_
              rotate_left
              · (intro w hSw; have hc0 := ME0.out w hSw; go_simp; try (with_reducible rfl))
              try simp only [Act.put, List.getElem_toArray, List.getElem_cons_zero, List.getElem_cons_succ, List.setIfInBounds_toArray, List.set_cons_zero, List.set_cons_succ]
              refine wpAnyH_take (i := 26) (v := ?_) rfl (by kernel_rfl) (by kernel_rfl) (by kernel_rfl) (fun _ _ _ h => h) (Or.inl ⟨by rfl, ?_⟩) (by assumption) ?_
              rotate_left
              · (intro w hSw; go_simp; try (with_reducible rfl))
              try simp only [Act.put, List.getElem_toArray, List.getElem_cons_zero, List.getElem_cons_succ, List.setIfInBounds_toArray, List.set_cons_zero, List.set_cons_succ]
              refine wpAnyH_take (i := 27) (v := ?_) rfl (by kernel_rfl) (by kernel_rfl) (by kernel_rfl) (fun _ _ _ h => h) (Or.inl ⟨by rfl, ?_⟩) (by assumption) ?_
              rotate_left
              · (intro w hSw; have hc0 := MG0.out w hSw; go_simp; try (with_reducible rfl))
              try simp only [Act.put, List.getElem_toArray, List.getElem_cons_zero, List.getElem_cons_succ, List.setIfInBounds_toArray, List.set_cons_zero, List.set_cons_succ]
              refine wpAnyH_take (i := 28) (v := ?_) rfl (by kernel_rfl) (by kernel_rfl) (by kernel_rfl) (fun _ _ _ h => h) (Or.inl ⟨by rfl, ?_⟩) (by assumption) ?_
              rotate_left
              · (intro w hSw; go_simp; try (with_reducible rfl))
              try simp only [Act.put, List.getElem_toArray, List.getElem_cons_zero, List.getElem_cons_succ, List.setIfInBounds_toArray, List.set_cons_zero, List.set_cons_succ]
              refine wpAnyH_take (i := 29) (v := ?_) rfl (by kernel_rfl) (by kernel_rfl) (by kernel_rfl) (fun _ _ _ h => h) (Or.inl ⟨by rfl, ?_⟩) (by assumption) ?_
              rotate_left
              · (intro w hSw; go_simp; try (with_reducible rfl))
              try simp only [Act.put, List.getElem_toArray, List.getElem_cons_zero, List.getElem_cons_succ, List.setIfInBounds_toArray, List.set_cons_zero, List.set_cons_succ]
              refine wpAnyH_take (i := 30) (v := ?_) rfl (by kernel_rfl) (by kernel_rfl) (by kernel_rfl) (fun _ _ _ h => h) (Or.inl ⟨by rfl, ?_⟩) (by assumption) ?_
              rotate_left
              · (intro w hSw; go_simp; try (with_reducible rfl))
              try simp only [Act.put, List.getElem_toArray, List.getElem_cons_zero, List.getElem_cons_succ, List.setIfInBounds_toArray, List.set_cons_zero, List.set_cons_succ]
              refine wpAnyH_done (by kernel_rfl) ?_ _
              refine NoPanic.normal ?_
              have HFX := Lib.hid (HSO.out _ hHeld)
              clear hHeld
              go_wp2_with fail
              go_roundw
              case rel => exact ⟨jj + 1, by omega, by go_num, HFX⟩
              case measure => simp [intOf]; omega
            · have hq1 : (ee.u == ge.u) = false := by simpa using heq
              have hq2 : decide (ee.u = ge.u) = false := decide_eq_false heq
              generalize ee.u = eu at *
              generalize ge.u = gu at *
              generalize ee.s = en at *
              generalize ge.s = gn at *
              go_upto_region 18 with fail
              refine wp_region_noPanic ?_
              refine wp_region_held_drew (S := S) (by kernel_rfl) HSS.out (fun hHeld => ?_)
              refine wpAnyH_take (i := 0) (v := ?_) rfl (by kernel_rfl) (by kernel_rfl) (by kernel_rfl) (fun _ _ _ h => h) (Or.inl ⟨by rfl, ?_⟩) (by assumption) ?_
              rotate_left
              · (intro w hSw; go_simp; try (with_reducible rfl))
              try simp only [Act.put, List.getElem_toArray, List.getElem_cons_zero, List.setIfInBounds_toArray, List.set_cons_zero, List.set_cons_succ]
              refine wpAnyH_take (i := 1) (v := ?_) rfl (by kernel_rfl) (by kernel_rfl) (by kernel_rfl) (fun _ _ _ h => h) (Or.inl ⟨by rfl, ?_⟩) (by assumption) ?_
              rotate_left
              · (intro w hSw; have hc0 := MP1.out w hSw; go_simp; try (with_reducible rfl))
              try simp only [Act.put, List.getElem_toArray, List.getElem_cons_zero, List.getElem_cons_succ, List.setIfInBounds_toArray, List.set_cons_zero, List.set_cons_succ]
              refine wpAnyH_take (i := 2) (v := ?_) rfl (by kernel_rfl) (by kernel_rfl) (by kernel_rfl) (fun _ _ _ h => h) (Or.inl ⟨by rfl, ?_⟩) (by assumption) ?_
              rotate_left
              · (intro w hSw; go_simp; try (with_reducible rfl))
              try simp only [Act.put, List.getElem_toArray, List.getElem_cons_zero, List.getElem_cons_succ, List.setIfInBounds_toArray, List.set_cons_zero, List.set_cons_succ]
              refine wpAnyH_take (i := 3) (v := ?_) rfl (by kernel_rfl) (by kernel_rfl) (by kernel_rfl) (fun _ _ _ h => h) (Or.inl ⟨by rfl, ?_⟩) (by assumption) ?_
              rotate_left
              · (intro w hSw; go_simp; try (with_reducible rfl))
              try simp only [Act.put, List.getElem_toArray, List.getElem_cons_zero, List.getElem_cons_succ, List.setIfInBounds_toArray, List.set_cons_zero, List.set_cons_succ]
              refine wpAnyH_take (i := 4) (v := ?_) rfl (by kernel_rfl) (by kernel_rfl) (by kernel_rfl) (fun _ _ _ h => h) (Or.inl ⟨by rfl, ?_⟩) (by assumption) ?_
              rotate_left
              · (intro w hSw; go_simp; try (with_reducible rfl))
              try simp only [Act.put, List.getElem_toArray, List.getElem_cons_zero, List.getElem_cons_succ, List.setIfInBounds_toArray, List.set_cons_zero, List.set_cons_succ]
              refine wpAnyH_take (i := 5) (v := ?_) rfl (by kernel_rfl) (by kernel_rfl) (by kernel_rfl) (fun _ _ _ h => h) (Or.inl ⟨by rfl, ?_⟩) (by assumption) ?_
              rotate_left
              · (intro w hSw; have hc0 := ME3.out w hSw; go_simp; try (with_reducible rfl))
              try simp only [Act.put, List.getElem_toArray, List.getElem_cons_zero, List.getElem_cons_succ, List.setIfInBounds_toArray, List.set_cons_zero, List.set_cons_succ]
              refine wpAnyH_take (i := 6) (v := ?_) rfl (by kernel_rfl) (by kernel_rfl) (by kernel_rfl) (fun _ _ _ h => h) (Or.inl ⟨by rfl, ?_⟩) (by assumption) ?_
              rotate_left
              · (intro w hSw; go_simp; try (with_reducible rfl))
              try simp only [Act.put, List.getElem_toArray, List.getElem_cons_zero, List.getElem_cons_succ, List.setIfInBounds_toArray, List.set_cons_zero, List.set_cons_succ]
              refine wpAnyH_take (i := 7) (v := ?_) rfl (by kernel_rfl) (by kernel_rfl) (by kernel_rfl) (fun _ _ _ h => h) (Or.inl ⟨by rfl, ?_⟩) (by assumption) ?_
              rotate_left
              · (intro w hSw; have hc0 := MG3.out w hSw; go_simp; try (with_reducible rfl))
              try simp only [Act.put, List.getElem_toArray, List.getElem_cons_zero, List.getElem_cons_succ, List.setIfInBounds_toArray, List.set_cons_zero, List.set_cons_succ]
              refine wpAnyH_take (i := 8) (v := ?_) rfl (by kernel_rfl) (by kernel_rfl) (by kernel_rfl) (fun _ _ _ h => h) (Or.inl ⟨by rfl, ?_⟩) (by assumption) ?_
              rotate_left
              · (intro w hSw; go_simp; try (with_reducible rfl))
              try simp only [Act.put, List.getElem_toArray, List.getElem_cons_zero, List.getElem_cons_succ, List.setIfInBounds_toArray, List.set_cons_zero, List.set_cons_succ]
              refine wpAnyH_take (i := 9) (v := ?_) rfl (by kernel_rfl) (by kernel_rfl) (by kernel_rfl) (fun _ _ _ h => h) (Or.inl ⟨by rfl, ?_⟩) (by assumption) ?_
              rotate_left
              · (intro w hSw; go_simp; try (with_reducible rfl))
              try simp only [Act.put, List.getElem_toArray, List.getElem_cons_zero, List.getElem_cons_succ, List.setIfInBounds_toArray, List.set_cons_zero, List.set_cons_succ]
              refine wpAnyH_take (i := 10) (v := ?_) rfl (by kernel_rfl) (by kernel_rfl) (by kernel_rfl) (fun _ _ _ h => h) (Or.inl ⟨by rfl, ?_⟩) (by assumption) ?_
              rotate_left
              · (intro w hSw; go_simp; try (with_reducible rfl))
              try simp only [Act.put, List.getElem_toArray, List.getElem_cons_zero, List.getElem_cons_succ, List.setIfInBounds_toArray, List.set_cons_zero, List.set_cons_succ]
              refine wpAnyH_take (i := 11) (v := ?_) rfl (by kernel_rfl) (by kernel_rfl) (by kernel_rfl) (fun _ _ _ h => h) (Or.inl ⟨by rfl, ?_⟩) (by assumption) ?_
              rotate_left
              · (intro w hSw; have hc0 := MP1.out w hSw; go_simp; try (with_reducible rfl))
              try simp only [Act.put, List.getElem_toArray, List.getElem_cons_zero, List.getElem_cons_succ, List.setIfInBounds_toArray, List.set_cons_zero, List.set_cons_succ]
              refine wpAnyH_take (i := 12) (v := ?_) rfl (by kernel_rfl) (by kernel_rfl) (by kernel_rfl) (fun _ _ _ h => h) (Or.inl ⟨by rfl, ?_⟩) (by assumption) ?_
              rotate_left
              · (intro w hSw; go_simp; try (with_reducible rfl))
              try simp only [Act.put, List.getElem_toArray, List.getElem_cons_zero, List.getElem_cons_succ, List.setIfInBounds_toArray, List.set_cons_zero, List.set_cons_succ]
              refine wpAnyH_take (i := 13) (v := ?_) rfl (by kernel_rfl) (by kernel_rfl) (by kernel_rfl) (fun _ _ _ h => h) (Or.inl ⟨by rfl, ?_⟩) (by assumption) ?_
              rotate_left
              · (intro w hSw; go_simp; try (with_reducible rfl))
              try simp only [Act.put, List.getElem_toArray, List.getElem_cons_zero, List.getElem_cons_succ, List.setIfInBounds_toArray, List.set_cons_zero, List.set_cons_succ]
              refine wpAnyH_take (i := 14) (v := ?_) rfl (by kernel_rfl) (by kernel_rfl) (by kernel_rfl) (fun _ _ _ h => h) (Or.inl ⟨by rfl, ?_⟩) (by assumption) ?_
              rotate_left
              · (intro w hSw; go_simp; try (with_reducible rfl))
              try simp only [Act.put, List.getElem_toArray, List.getElem_cons_zero, List.getElem_cons_succ, List.setIfInBounds_toArray, List.set_cons_zero, List.set_cons_succ]
              refine wpAnyH_take (i := 15) (v := ?_) rfl (by kernel_rfl) (by kernel_rfl) (by kernel_rfl) (fun _ _ _ h => h) (Or.inl ⟨by rfl, ?_⟩) (by assumption) ?_
              rotate_left
              · (intro w hSw; have hc0 := ME3.out w hSw; go_simp; try (with_reducible rfl))
              try simp only [Act.put, List.getElem_toArray, List.getElem_cons_zero, List.getElem_cons_succ, List.setIfInBounds_toArray, List.set_cons_zero, List.set_cons_succ]
              refine wpAnyH_take (i := 16) (v := ?_) rfl (by kernel_rfl) (by kernel_rfl) (by kernel_rfl) (fun _ _ _ h => h) (Or.inl ⟨by rfl, ?_⟩) (by assumption) ?_
              rotate_left
              · (intro w hSw; go_simp; try (with_reducible rfl))
              try simp only [Act.put, List.getElem_toArray, List.getElem_cons_zero, List.getElem_cons_succ, List.setIfInBounds_toArray, List.set_cons_zero, List.set_cons_succ]
              refine wpAnyH_take (i := 17) (v := ?_) rfl (by kernel_rfl) (by kernel_rfl) (by kernel_rfl) (fun _ _ _ h => h) (Or.inl ⟨by rfl, ?_⟩) (by assumption) ?_
              rotate_left
              · (intro w hSw; have hc0 := MG3.out w hSw; go_simp; try (with_reducible rfl))
              try simp only [Act.put, List.getElem_toArray, List.getElem_cons_zero, List.getElem_cons_succ, List.setIfInBounds_toArray, List.set_cons_zero, List.set_cons_succ]
              refine wpAnyH_take (i := 18) (v := ?_) rfl (by kernel_rfl) (by kernel_rfl) (by kernel_rfl) (fun _ _ _ h => h) (Or.inl ⟨by rfl, ?_⟩) (by assumption) ?_
              rotate_left
              · (intro w hSw; go_simp; try (with_reducible rfl))
              try simp only [Act.put, List.getElem_toArray, List.getElem_cons_zero, List.getElem_cons_succ, List.setIfInBounds_toArray, List.set_cons_zero, List.set_cons_succ]
              refine wpAnyH_take (i := 19) (v := ?_) rfl (by kernel_rfl) (by kernel_rfl) (by kernel_rfl) (fun _ _ _ h => h) (Or.inl ⟨by rfl, ?_⟩) (by assumption) ?_
              rotate_left
              · (intro w hSw; go_simp; try (with_reducible rfl))
              try simp only [Act.put, List.getElem_toArray, List.getElem_cons_zero, List.getElem_cons_succ, List.setIfInBounds_toArray, List.set_cons_zero, List.set_cons_succ]
              refine wpAnyH_take (i := 20) (v := undef) rfl (by kernel_rfl) (by kernel_rfl) (by kernel_rfl) (fun _ _ _ h => h) (Or.inr ⟨by rfl, rfl⟩) (by assumption) ?_
              try simp only [Act.put, List.getElem_toArray, List.getElem_cons_zero, List.getElem_cons_succ, List.setIfInBounds_toArray, List.set_cons_zero, List.set_cons_succ]
              refine wpAnyH_take (i := 21) (v := undef) rfl (by kernel_rfl) (by kernel_rfl) (by kernel_rfl) (fun _ _ _ h => h) (Or.inr ⟨by rfl, rfl⟩) (by assumption) ?_
              try simp only [Act.put, List.getElem_toArray, List.getElem_cons_zero, List.getElem_cons_succ, List.setIfInBounds_toArray, List.set_cons_zero, List.set_cons_succ]
              refine wpAnyH_take (i := 22) (v := undef) rfl (by kernel_rfl) (by kernel_rfl) (by kernel_rfl) (fun _ _ _ h => h) (Or.inr ⟨by rfl, rfl⟩) (by assumption) ?_
              try simp only [Act.put, List.getElem_toArray, List.getElem_cons_zero, List.getElem_cons_succ, List.setIfInBounds_toArray, List.set_cons_zero, List.set_cons_succ]
              refine wpAnyH_take (i := 23) (v := undef) rfl (by kernel_rfl) (by kernel_rfl) (by kernel_rfl) (fun _ _ _ h => h) (Or.inr ⟨by rfl, rfl⟩) (by assumption) ?_
              try simp only [Act.put, List.getElem_toArray, List.getElem_cons_zero, List.getElem_cons_succ, List.setIfInBounds_toArray, List.set_cons_zero, List.set_cons_succ]
              refine wpAnyH_take (i := 24) (v := undef) rfl (by kernel_rfl) (by kernel_rfl) (by kernel_rfl) (fun _ _ _ h => h) (Or.inr ⟨by rfl, rfl⟩) (by assumption) ?_
              try simp only [Act.put, List.getElem_toArray, List.getElem_cons_zero, List.getElem_cons_succ, List.setIfInBounds_toArray, List.set_cons_zero, List.set_cons_succ]
              refine wpAnyH_take (i := 25) (v := undef) rfl (by kernel_rfl) (by kernel_rfl) (by kernel_rfl) (fun _ _ _ h => h) (Or.inr ⟨by rfl, rfl⟩) (by assumption) ?_
              try simp only [Act.put, List.getElem_toArray, List.getElem_cons_zero, List.getElem_cons_succ, List.setIfInBounds_toArray, List.set_cons_zero, List.set_cons_succ]
              refine wpAnyH_take (i := 26) (v := undef) rfl (by kernel_rfl) (by kernel_rfl) (by kernel_rfl) (fun _ _ _ h => h) (Or.inr ⟨by rfl, rfl⟩) (by assumption) ?_
              try simp only [Act.put, List.getElem_toArray, List.getElem_cons_zero, List.getElem_cons_succ, List.setIfInBounds_toArray, List.set_cons_zero, List.set_cons_succ]
              refine wpAnyH_take (i := 27) (v := undef) rfl (by kernel_rfl) (by kernel_rfl) (by kernel_rfl) (fun _ _ _ h => h) (Or.inr ⟨by rfl, rfl⟩) (by assumption) ?_
              try simp only [Act.put, List.getElem_toArray, List.getElem_cons_zero, List.getElem_cons_succ, List.setIfInBounds_toArray, List.set_cons_zero, List.set_cons_succ]
              refine wpAnyH_take (i := 28) (v := undef) rfl (by kernel_rfl) (by kernel_rfl) (by kernel_rfl) (fun _ _ _ h => h) (Or.inr ⟨by rfl, rfl⟩) (by assumption) ?_
              try simp only [Act.put, List.getElem_toArray, List.getElem_cons_zero, List.getElem_cons_succ, List.setIfInBounds_toArray, List.set_cons_zero, List.set_cons_succ]
              refine wpAnyH_take (i := 29) (v := ?_) rfl (by kernel_rfl) (by kernel_rfl) (by kernel_rfl) (fun _ _ _ h => h) (Or.inl ⟨by rfl, ?_⟩) (by assumption) ?_
              rotate_left
              · (intro w hSw; go_simp; try (with_reducible rfl))
              try simp only [Act.put, List.getElem_toArray, List.getElem_cons_zero, List.getElem_cons_succ, List.setIfInBounds_toArray, List.set_cons_zero, List.set_cons_succ]
              refine wpAnyH_take (i := 30) (v := ?_) rfl (by kernel_rfl) (by kernel_rfl) (by kernel_rfl) (fun _ _ _ h => h) (Or.inl ⟨by rfl, ?_⟩) (by assumption) ?_
              rotate_left
              · (intro w hSw; go_simp; try (with_reducible rfl))
              try simp only [Act.put, List.getElem_toArray, List.getElem_cons_zero, List.getElem_cons_succ, List.setIfInBounds_toArray, List.set_cons_zero, List.set_cons_succ]
              refine wpAnyH_done (by kernel_rfl) ?_ _
              refine NoPanic.normal ?_
              have HFX := Lib.hid (HSO.out _ hHeld)
              clear hHeld
              go_wp2_with fail
              go_roundw
              case rel => exact ⟨jj + 1, by omega, by go_num, HFX⟩
              case measure => simp [intOf]; omega
          | false =>
            have HBE2 := Lib.hid (chain HB10.out HBX.out)
            have HPx := Lib.hid (HP10.out.below HBX.out)
            have HXx := Lib.hid (HX10.out.below HBX.out)
            have HCx := Lib.hid (HC10.out.below HBX.out)
            have HRx := Lib.hid (HR10.out.below HBX.out)
            clear HBX HM1 HROW HLST HCE HC10 HP10 HX10 HR10 HB10
            go_upto_region 21 with (first | refine load_cc HXx rfl _ rfl rfl rfl ?_ | (refine store_cc HPx rfl _ _ rfl rfl rfl rfl rfl rfl (fun W11 HW11 HP11 => ?_)))
            have HC11 : Hid (CacAt W11 G b room (lE rs)) := Lib.hid (by rw [HW11.out]; exact HCx.out.setsAt HNE.out.1 HNE.out.2)
            have HR11 : Hid (RowC W11 0 (.slice ad6 n6 c6) (lF rs)) := Lib.hid (by rw [HW11.out]; exact HRx.out.setsAt HFAR.out)
            have HB11 : Hid (Below w.heap.size w W11) := Lib.hid (by rw [HW11.out]; exact below_cells HPW.out _ _ _ HBE2.out)
            obtain ⟨S, hS⟩ : ∃ S : World → Prop, (fun W => Below W11.heap.size W11 W) = S := ⟨_, rfl⟩
            have HSO : Hid (∀ W, S W → Below W11.heap.size W11 W) := Lib.hid (fun W h => by rw [← hS] at h; exact h)
            have HSS : Hid (S W11.drew) := Lib.hid (by rw [← hS]; exact (Below.refl _ _).drew)
            have HKL : ∀ W, S W → Hid (Calls Try.prog 13 #[.pointer (some ⟨G, 0, none⟩)] W fun e w' => e = .returned (.int .i64 (n6 : Int)) ∧ S w') := fun W h => Lib.hid ((len_any G b room (lE rs) W (HC11.out.below (HSO.out W h))).mono (by rintro e w' ⟨rfl, rfl⟩; exact ⟨by rw [HLR.out], h⟩))
            have HKR : ∀ W, S W → Hid (Calls Try.prog 14 #[.pointer (some ⟨G, 0, none⟩)] W fun e w' => e = .returned (.int .i64 room) ∧ S w') := fun W h => Lib.hid ((room_any G b room (lE rs) W (HC11.out.below (HSO.out W h))).mono (by rintro e w' ⟨rfl, rfl⟩; exact ⟨rfl, h⟩))
            have MP : Hid (∀ W, S W → W.cell? ⟨P6, 1, none⟩ = some (.slice ad6 n6 c6)) := Lib.hid (fun W h => (HP11.out.below (HSO.out W h)).cell 1 _ rfl)
            have hgt : decide (room < (n6 : Int)) = false := decide_eq_false (by have := HC11.out.le; rw [HLR.out] at this; omega)
            have hnn6 : ((n6 : Int) != (n6 : Int)) = false := by simp
            clear hS HCx HRx HPx HXx HBE2
            refine wp_region_noPanic ?_
            refine wp_region_held_drew (S := S) (by kernel_rfl) HSS.out (fun hHeld => ?_)
            refine wpAnyH_take (i := 0) (v := ?_) rfl (by kernel_rfl) (by kernel_rfl) (by kernel_rfl) (fun _ _ _ h => h) (Or.inl ⟨by rfl, ?_⟩) (by assumption) ?_
            rotate_left
            · (intro w hSw; go_simp; try (with_reducible rfl))
            try simp only [Act.put, List.getElem_toArray, List.getElem_cons_zero, List.setIfInBounds_toArray, List.set_cons_zero, List.set_cons_succ]
            refine wpAnyH_take (i := 2) (v := ?_) rfl (by kernel_rfl) (by kernel_rfl) (by kernel_rfl) (fun _ _ _ h => h) (Or.inl ⟨by rfl, ?_⟩) (by assumption) ?_
            rotate_left
            · (intro w hSw; go_simp; try (with_reducible rfl))
            try simp only [Act.put, List.getElem_toArray, List.getElem_cons_zero, List.getElem_cons_succ, List.setIfInBounds_toArray, List.set_cons_zero, List.set_cons_succ]
            refine wpAnyH_ready (rs := [1]) (by kernel_rfl) (by simp) ?_
            refine AllReadyH.cons rfl (fun K hK => ?_) AllReadyH.nil
            go_simp
            refine (HKL _ (by assumption)).out.mono ?_
            rintro e wr1 ⟨rfl, hS1⟩
            go_wp2_with fail
            refine hK.out _ _ hS1 (fun hHeld => ?_)
            clear hK K
            try simp only [Act.put, List.getElem_toArray, List.getElem_cons_zero, List.getElem_cons_succ, List.setIfInBounds_toArray, List.set_cons_zero, List.set_cons_succ]
            refine wpAnyH_ready (rs := [3]) (by kernel_rfl) (by simp) ?_
            refine AllReadyH.cons rfl (fun K hK => ?_) AllReadyH.nil
            go_simp
            refine (HKR _ (by assumption)).out.mono ?_
            rintro e wr3 ⟨rfl, hS3⟩
            go_wp2_with fail
            refine hK.out _ _ hS3 (fun hHeld => ?_)
            clear hK K
            try simp only [Act.put, List.getElem_toArray, List.getElem_cons_zero, List.getElem_cons_succ, List.setIfInBounds_toArray, List.set_cons_zero, List.set_cons_succ]
            refine wpAnyH_take (i := 4) (v := ?_) rfl (by kernel_rfl) (by kernel_rfl) (by kernel_rfl) (fun _ _ _ h => h) (Or.inl ⟨by rfl, ?_⟩) (by assumption) ?_
            rotate_left
            · (intro w hSw; go_simp; try (with_reducible rfl))
            try simp only [Act.put, List.getElem_toArray, List.getElem_cons_zero, List.getElem_cons_succ, List.setIfInBounds_toArray, List.set_cons_zero, List.set_cons_succ]
            refine wpAnyH_take (i := 5) (v := ?_) rfl (by kernel_rfl) (by kernel_rfl) (by kernel_rfl) (fun _ _ _ h => h) (Or.inl ⟨by rfl, ?_⟩) (by assumption) ?_
            rotate_left
            · (intro w hSw; go_simp; try (with_reducible rfl))
            try simp only [Act.put, List.getElem_toArray, List.getElem_cons_zero, List.getElem_cons_succ, List.setIfInBounds_toArray, List.set_cons_zero, List.set_cons_succ]
            refine wpAnyH_take (i := 6) (v := ?_) rfl (by kernel_rfl) (by kernel_rfl) (by kernel_rfl) (fun _ _ _ h => h) (Or.inl ⟨by rfl, ?_⟩) (by assumption) ?_
            rotate_left
            · (intro w hSw; go_simp; try (with_reducible rfl))
            try simp only [Act.put, List.getElem_toArray, List.getElem_cons_zero, List.getElem_cons_succ, List.setIfInBounds_toArray, List.set_cons_zero, List.set_cons_succ]
            refine wpAnyH_take (i := 8) (v := ?_) rfl (by kernel_rfl) (by kernel_rfl) (by kernel_rfl) (fun _ _ _ h => h) (Or.inl ⟨by rfl, ?_⟩) (by assumption) ?_
            rotate_left
            · (intro w hSw; go_simp; try (with_reducible rfl))
            try simp only [Act.put, List.getElem_toArray, List.getElem_cons_zero, List.getElem_cons_succ, List.setIfInBounds_toArray, List.set_cons_zero, List.set_cons_succ]
            refine wpAnyH_take (i := 9) (v := ?_) rfl (by kernel_rfl) (by kernel_rfl) (by kernel_rfl) (fun _ _ _ h => h) (Or.inl ⟨by rfl, ?_⟩) (by assumption) ?_
            rotate_left
            · (intro w hSw; have hc0 := MP.out w hSw; go_simp; try (with_reducible rfl))
            try simp only [Act.put, List.getElem_toArray, List.getElem_cons_zero, List.getElem_cons_succ, List.setIfInBounds_toArray, List.set_cons_zero, List.set_cons_succ]
            refine wpAnyH_take (i := 10) (v := ?_) rfl (by kernel_rfl) (by kernel_rfl) (by kernel_rfl) (fun _ _ _ h => h) (Or.inl ⟨by rfl, ?_⟩) (by assumption) ?_
            rotate_left
            · (intro w hSw; go_simp; try (with_reducible rfl))
            try simp only [Act.put, List.getElem_toArray, List.getElem_cons_zero, List.getElem_cons_succ, List.setIfInBounds_toArray, List.set_cons_zero, List.set_cons_succ]
            refine wpAnyH_ready (rs := [7]) (by kernel_rfl) (by simp) ?_
            refine AllReadyH.cons rfl (fun K hK => ?_) AllReadyH.nil
            go_simp
            refine (HKL _ (by assumption)).out.mono ?_
            rintro e wr7 ⟨rfl, hS7⟩
            go_wp2_with fail
            refine hK.out _ _ hS7 (fun hHeld => ?_)
            clear hK K
            try simp only [Act.put, List.getElem_toArray, List.getElem_cons_zero, List.getElem_cons_succ, List.setIfInBounds_toArray, List.set_cons_zero, List.set_cons_succ]
            refine wpAnyH_take (i := 11) (v := ?_) rfl (by kernel_rfl) (by kernel_rfl) (by kernel_rfl) (fun _ _ _ h => h) (Or.inl ⟨by rfl, ?_⟩) (by assumption) ?_
            rotate_left
            · (intro w hSw; go_simp; try (with_reducible rfl))
            try simp only [Act.put, List.getElem_toArray, List.getElem_cons_zero, List.getElem_cons_succ, List.setIfInBounds_toArray, List.set_cons_zero, List.set_cons_succ]
            refine wpAnyH_take (i := 12) (v := ?_) rfl (by kernel_rfl) (by kernel_rfl) (by kernel_rfl) (fun _ _ _ h => h) (Or.inl ⟨by rfl, ?_⟩) (by assumption) ?_
            rotate_left
            · (intro w hSw; go_simp; try (with_reducible rfl))
            try simp only [Act.put, List.getElem_toArray, List.getElem_cons_zero, List.getElem_cons_succ, List.setIfInBounds_toArray, List.set_cons_zero, List.set_cons_succ]
            refine wpAnyH_done (by kernel_rfl) ?_ _
            refine NoPanic.normal ?_
            have HF := HSO.out _ hHeld
            have HC12 := Lib.hid (HC11.out.below HF)
            have HR12 := Lib.hid (HR11.out.below HF)
            have HP12 := Lib.hid (HP11.out.below HF)
            have HB12 := Lib.hid (chain HB11.out HF)
            clear HF hHeld HKL HKR MP HSS HSO HC11 HR11 HP11 HB11
            go_wp2_with fail
            go_roundw
            case rel => exact ⟨k + 1, rs, .slice ad6 n6 c6, by omega, by omega, by go_num, HC12, HR12, HLS2, HP12, HB12⟩
            case measure => simp [intOf]; omega
        · obtain rfl : jj = n := by omega
          have hdj : decide ((jj : Int) < (jj : Int)) = false := by simp
          have HBE2 := Lib.hid (chain HB10.out HBX.out)
          have HPx := Lib.hid (HP10.out.below HBX.out)
          have HXx := Lib.hid (HX10.out.below HBX.out)
          have HCx := Lib.hid (HC10.out.below HBX.out)
          have HRx := Lib.hid (HR10.out.below HBX.out)
          clear HBX HM1 HROW HLST HCE HC10 HP10 HX10 HR10 HB10
          go_upto_region 21 with (first | refine load_cc HXx rfl _ rfl rfl rfl ?_ | (refine store_cc HPx rfl _ _ rfl rfl rfl rfl rfl rfl (fun W11 HW11 HP11 => ?_)))
          have HC11 : Hid (CacAt W11 G b room (lE rs)) := Lib.hid (by rw [HW11.out]; exact HCx.out.setsAt HNE.out.1 HNE.out.2)
          have HR11 : Hid (RowC W11 0 (.slice ad6 n6 c6) (lF rs)) := Lib.hid (by rw [HW11.out]; exact HRx.out.setsAt HFAR.out)
          have HB11 : Hid (Below w.heap.size w W11) := Lib.hid (by rw [HW11.out]; exact below_cells HPW.out _ _ _ HBE2.out)
          obtain ⟨S, hS⟩ : ∃ S : World → Prop, (fun W => Below W11.heap.size W11 W) = S := ⟨_, rfl⟩
          have HSO : Hid (∀ W, S W → Below W11.heap.size W11 W) := Lib.hid (fun W h => by rw [← hS] at h; exact h)
          have HSS : Hid (S W11.drew) := Lib.hid (by rw [← hS]; exact (Below.refl _ _).drew)
          have HKL : ∀ W, S W → Hid (Calls Try.prog 13 #[.pointer (some ⟨G, 0, none⟩)] W fun e w' => e = .returned (.int .i64 (n6 : Int)) ∧ S w') := fun W h => Lib.hid ((len_any G b room (lE rs) W (HC11.out.below (HSO.out W h))).mono (by rintro e w' ⟨rfl, rfl⟩; exact ⟨by rw [HLR.out], h⟩))
          have HKR : ∀ W, S W → Hid (Calls Try.prog 14 #[.pointer (some ⟨G, 0, none⟩)] W fun e w' => e = .returned (.int .i64 room) ∧ S w') := fun W h => Lib.hid ((room_any G b room (lE rs) W (HC11.out.below (HSO.out W h))).mono (by rintro e w' ⟨rfl, rfl⟩; exact ⟨rfl, h⟩))
          have MP : Hid (∀ W, S W → W.cell? ⟨P6, 1, none⟩ = some (.slice ad6 n6 c6)) := Lib.hid (fun W h => (HP11.out.below (HSO.out W h)).cell 1 _ rfl)
          have hgt : decide (room < (n6 : Int)) = false := decide_eq_false (by have := HC11.out.le; rw [HLR.out] at this; omega)
          have hnn6 : ((n6 : Int) != (n6 : Int)) = false := by simp
          clear hS HCx HRx HPx HXx HBE2
          refine wp_region_noPanic ?_
          refine wp_region_held_drew (S := S) (by kernel_rfl) HSS.out (fun hHeld => ?_)
          refine wpAnyH_take (i := 0) (v := ?_) rfl (by kernel_rfl) (by kernel_rfl) (by kernel_rfl) (fun _ _ _ h => h) (Or.inl ⟨by rfl, ?_⟩) (by assumption) ?_
          rotate_left
          · (intro w hSw; go_simp; try (with_reducible rfl))
          try simp only [Act.put, List.getElem_toArray, List.getElem_cons_zero, List.setIfInBounds_toArray, List.set_cons_zero, List.set_cons_succ]
          refine wpAnyH_take (i := 2) (v := ?_) rfl (by kernel_rfl) (by kernel_rfl) (by kernel_rfl) (fun _ _ _ h => h) (Or.inl ⟨by rfl, ?_⟩) (by assumption) ?_
          rotate_left
          · (intro w hSw; go_simp; try (with_reducible rfl))
          try simp only [Act.put, List.getElem_toArray, List.getElem_cons_zero, List.getElem_cons_succ, List.setIfInBounds_toArray, List.set_cons_zero, List.set_cons_succ]
          refine wpAnyH_ready (rs := [1]) (by kernel_rfl) (by simp) ?_
          refine AllReadyH.cons rfl (fun K hK => ?_) AllReadyH.nil
          go_simp
          refine (HKL _ (by assumption)).out.mono ?_
          rintro e wr1 ⟨rfl, hS1⟩
          go_wp2_with fail
          refine hK.out _ _ hS1 (fun hHeld => ?_)
          clear hK K
          try simp only [Act.put, List.getElem_toArray, List.getElem_cons_zero, List.getElem_cons_succ, List.setIfInBounds_toArray, List.set_cons_zero, List.set_cons_succ]
          refine wpAnyH_ready (rs := [3]) (by kernel_rfl) (by simp) ?_
          refine AllReadyH.cons rfl (fun K hK => ?_) AllReadyH.nil
          go_simp
          refine (HKR _ (by assumption)).out.mono ?_
          rintro e wr3 ⟨rfl, hS3⟩
          go_wp2_with fail
          refine hK.out _ _ hS3 (fun hHeld => ?_)
          clear hK K
          try simp only [Act.put, List.getElem_toArray, List.getElem_cons_zero, List.getElem_cons_succ, List.setIfInBounds_toArray, List.set_cons_zero, List.set_cons_succ]
          refine wpAnyH_take (i := 4) (v := ?_) rfl (by kernel_rfl) (by kernel_rfl) (by kernel_rfl) (fun _ _ _ h => h) (Or.inl ⟨by rfl, ?_⟩) (by assumption) ?_
          rotate_left
          · (intro w hSw; go_simp; try (with_reducible rfl))
          try simp only [Act.put, List.getElem_toArray, List.getElem_cons_zero, List.getElem_cons_succ, List.setIfInBounds_toArray, List.set_cons_zero, List.set_cons_succ]
          refine wpAnyH_take (i := 5) (v := ?_) rfl (by kernel_rfl) (by kernel_rfl) (by kernel_rfl) (fun _ _ _ h => h) (Or.inl ⟨by rfl, ?_⟩) (by assumption) ?_
          rotate_left
          · (intro w hSw; go_simp; try (with_reducible rfl))
          try simp only [Act.put, List.getElem_toArray, List.getElem_cons_zero, List.getElem_cons_succ, List.setIfInBounds_toArray, List.set_cons_zero, List.set_cons_succ]
          refine wpAnyH_take (i := 6) (v := ?_) rfl (by kernel_rfl) (by kernel_rfl) (by kernel_rfl) (fun _ _ _ h => h) (Or.inl ⟨by rfl, ?_⟩) (by assumption) ?_
          rotate_left
          · (intro w hSw; go_simp; try (with_reducible rfl))
          try simp only [Act.put, List.getElem_toArray, List.getElem_cons_zero, List.getElem_cons_succ, List.setIfInBounds_toArray, List.set_cons_zero, List.set_cons_succ]
          refine wpAnyH_take (i := 8) (v := ?_) rfl (by kernel_rfl) (by kernel_rfl) (by kernel_rfl) (fun _ _ _ h => h) (Or.inl ⟨by rfl, ?_⟩) (by assumption) ?_
          rotate_left
          · (intro w hSw; go_simp; try (with_reducible rfl))
          try simp only [Act.put, List.getElem_toArray, List.getElem_cons_zero, List.getElem_cons_succ, List.setIfInBounds_toArray, List.set_cons_zero, List.set_cons_succ]
          refine wpAnyH_take (i := 9) (v := ?_) rfl (by kernel_rfl) (by kernel_rfl) (by kernel_rfl) (fun _ _ _ h => h) (Or.inl ⟨by rfl, ?_⟩) (by assumption) ?_
          rotate_left
          · (intro w hSw; have hc0 := MP.out w hSw; go_simp; try (with_reducible rfl))
          try simp only [Act.put, List.getElem_toArray, List.getElem_cons_zero, List.getElem_cons_succ, List.setIfInBounds_toArray, List.set_cons_zero, List.set_cons_succ]
          refine wpAnyH_take (i := 10) (v := ?_) rfl (by kernel_rfl) (by kernel_rfl) (by kernel_rfl) (fun _ _ _ h => h) (Or.inl ⟨by rfl, ?_⟩) (by assumption) ?_
          rotate_left
          · (intro w hSw; go_simp; try (with_reducible rfl))
          try simp only [Act.put, List.getElem_toArray, List.getElem_cons_zero, List.getElem_cons_succ, List.setIfInBounds_toArray, List.set_cons_zero, List.set_cons_succ]
          refine wpAnyH_ready (rs := [7]) (by kernel_rfl) (by simp) ?_
          refine AllReadyH.cons rfl (fun K hK => ?_) AllReadyH.nil
          go_simp
          refine (HKL _ (by assumption)).out.mono ?_
          rintro e wr7 ⟨rfl, hS7⟩
          go_wp2_with fail
          refine hK.out _ _ hS7 (fun hHeld => ?_)
          clear hK K
          try simp only [Act.put, List.getElem_toArray, List.getElem_cons_zero, List.getElem_cons_succ, List.setIfInBounds_toArray, List.set_cons_zero, List.set_cons_succ]
          refine wpAnyH_take (i := 11) (v := ?_) rfl (by kernel_rfl) (by kernel_rfl) (by kernel_rfl) (fun _ _ _ h => h) (Or.inl ⟨by rfl, ?_⟩) (by assumption) ?_
          rotate_left
          · (intro w hSw; go_simp; try (with_reducible rfl))
          try simp only [Act.put, List.getElem_toArray, List.getElem_cons_zero, List.getElem_cons_succ, List.setIfInBounds_toArray, List.set_cons_zero, List.set_cons_succ]
          refine wpAnyH_take (i := 12) (v := ?_) rfl (by kernel_rfl) (by kernel_rfl) (by kernel_rfl) (fun _ _ _ h => h) (Or.inl ⟨by rfl, ?_⟩) (by assumption) ?_
          rotate_left
          · (intro w hSw; go_simp; try (with_reducible rfl))
          try simp only [Act.put, List.getElem_toArray, List.getElem_cons_zero, List.getElem_cons_succ, List.setIfInBounds_toArray, List.set_cons_zero, List.set_cons_succ]
          refine wpAnyH_done (by kernel_rfl) ?_ _
          refine NoPanic.normal ?_
          have HF := HSO.out _ hHeld
          have HC12 := Lib.hid (HC11.out.below HF)
          have HR12 := Lib.hid (HR11.out.below HF)
          have HP12 := Lib.hid (HP11.out.below HF)
          have HB12 := Lib.hid (chain HB11.out HF)
          clear HF hHeld HKL HKR MP HSS HSO HC11 HR11 HP11 HB11
          go_wp2_with fail
          go_roundw
          case rel => exact ⟨k + 1, rs, .slice ad6 n6 c6, by omega, by omega, by go_num, HC12, HR12, HLS2, HP12, HB12⟩
          case measure => simp [intOf]; omega
    · have hpick : (decide ((k : Int) < (len : Int)) && decide ((k : Int) < 70)) = false := by
        rw [Bool.and_eq_false_iff]
        by_cases h : k < len
        · exact .inr (decide_eq_false (fun h2 => hkn ⟨h, by omega⟩))
        · exact .inl (decide_eq_false (by omega))
      by_cases h : k < len
      · have hd : decide ((k : Int) < (len : Int)) = true := decide_eq_true (by omega)
        have hdn : decide (k < len) = true := decide_eq_true h
        have hd7 : decide ((k : Int) < 70) = false := decide_eq_false (fun h2 => hkn ⟨h, by omega⟩)
        have hd7n : decide (k < 70) = false := decide_eq_false (fun h2 => hkn ⟨h, h2⟩)
        clear HC HR HP HLS hpick
        go_wp2_with fail
        refine (HLV _).out.mono ?_
        rintro e w5 ⟨rfl, hb5⟩
        have HB5 := Lib.hid (chain HB.out hb5)
        clear hb5 HLV
        go_wp2_with fail
        go_ret
        exact ⟨rfl, HB5.out⟩
      · have hd : decide ((k : Int) < (len : Int)) = false := decide_eq_false (by omega)
        have hdn : decide (k < len) = false := decide_eq_false h
        clear HC HR HP HLS hpick
        go_wp2_with fail
        refine (HLV _).out.mono ?_
        rintro e w5 ⟨rfl, hb5⟩
        have HB5 := Lib.hid (chain HB.out hb5)
        clear hb5 HLV
        go_wp2_with fail
        go_ret
        exact ⟨rfl, HB5.out⟩

set_option maxRecDepth 100000 in
theorem lifted (os : Os) (started : os.Started) (H : Type) (enc : TypeId × Value → H) :
    ReturnsInHanded {} Try.checked os 5 .any (Rows.cacheLetsSpec.pre6 enc Try.prog Try.f5 Rows.cacheLetsRow.domain false) (Rows.cacheLetsSpec.post enc Try.prog Try.f5 false true false false) := by
  refine returnsInHanded_of_change (C := Try.checked) own started (by kernel_rfl) Try.func5
    (ChangeSpec.witness6 (enc := enc) (C := Try.checked) false ⟨#[], #[.int .i64 0, .slice none 0 0], []⟩ 8 (by kernel_rfl) (by kernel_rfl) (by kernel_rfl) (by kernel_rfl)) ?_
  intro W base args ds gs before hval0 hW hcnd _
  have hval : ∀ (j : Nat) t v, Try.f5.params[j]? = some t → args[j]? = some v → Value.okWide Try.prog W .any base t v := hval0
  have hW' := hW
  obtain ⟨p, q, hA0, hV, rfl, hfz, hnd⟩ := hW
  have hA : DataW.TrodAll enc Try.prog W 0 (fun _ => true) true Try.f5.params.toList args.toList ds p := hA0
  rw [Try.params5] at hA hval
  obtain ⟨v0, vs0, d0, ds0, p0, q0, hargs, rfl, rfl, h0, r0⟩ := trodAll_cons hA
  obtain ⟨v1, vs1, d1, ds1, p1, q1, rfl, rfl, rfl, h1, r1⟩ := trodAll_cons r0
  obtain ⟨rfl, rfl, rfl⟩ := trodAll_nil r1
  obtain rfl : args = #[v0, v1] := by cases args; simp_all
  obtain ⟨rfl, rfl⟩ := trodVars_none hV
  obtain ⟨a0, rfl, rfl, rfl, w0⟩ := open_int Try.underlying3 (hval 0 3 v0 rfl rfl) h0
  obtain ⟨a1, len1, cap1, rfl⟩ := okWide_slice Try.underlying57 (hval 1 57 v1 rfl rfl)
  have k1 := h1
  have lt1 : ∀ x ∈ p1, x.block < W.heap.size := by obtain ⟨m, hm⟩ := k1; exact DataW.trod_lt m _ _ _ hm
  obtain ⟨z1, w1⟩ : ∃ zs, IsRow .i64 W a1 len1 cap1 zs := by
    obtain ⟨fuel, hf⟩ := h1
    rcases open_ints Try.underlying57 Try.underlying3 (by kernel_rfl) hf with ⟨hcs, _⟩ | ⟨x, l, c, zs, hcs, _, hl, hm, hz, _, hcell, hwz⟩
    · simp [Value.cells] at hcs
      obtain ⟨rfl, rfl, rfl⟩ := hcs
      exact ⟨[], .inl ⟨rfl, rfl, rfl, rfl⟩⟩
    · simp [Value.cells] at hcs
      obtain ⟨rfl, rfl, rfl⟩ := hcs
      exact ⟨zs, .inr ⟨_, rfl, hl, hm, by simpa using hz, hcell, hwz⟩⟩
  clear hA0 hval0
  refine (walk a0 a1 len1 cap1 z1 W w0 w1).mono fun e W' ⟨he, bel⟩ => ?_
  subst he
  exact ⟨_, rfl, _, _, _, [], _, [], hW', trodAll_mk1 (shut_bool Try.underlying4 _), (trodAll_cons_mk (shut_int Try.underlying3 w0) (trodAll_cons_mk (Below.trod laidOut (by kernel_rfl) (of_decide_eq_true (by kernel_rfl)) k1 bel lt1) trodAll_mk0)), rfl, bel.frame _, fun h => by cases h⟩

theorem over : Rows.cacheLetsRow.holds Try.pinned (OpenSpec.ofChange Rows.cacheLetsSpec) :=
  OpenClaim.holds_of_wide 5 Try.f5 rfl rfl rfl rfl rfl rfl rfl ⟨rfl, rfl, rfl, rfl, rfl⟩ rfl rfl rfl rfl rfl (by kernel_rfl) Try.func5 (by kernel_rfl)
    (of_decide_eq_true (by kernel_rfl)) (by unfold Func.isWrapper; first | (rw [if_pos (by decide +kernel)]; kernel_rfl) | (rw [if_neg (by decide +kernel)]; exact ⟨rfl, rfl⟩))
    (fun os started H enc _ => lifted os started H enc)


theorem proved : Rows.CacheLetsSaid := over
#print axioms proved
end Go.Proofs.Ytjmmedpkcedngaa.cacheLets

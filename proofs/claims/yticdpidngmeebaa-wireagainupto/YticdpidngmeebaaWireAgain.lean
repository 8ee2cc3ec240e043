/- What is read of any bytes may be, but that its bytes are others, and is read of those as it was, if they are not too long. For every row of bytes and every message (made one that may be, of whose bytes one is turned) of bulk at most 1048576. -/
import Derived.Test.YticdpidngmeebaaF12
import Derived.Test.YticdpidngmeebaaRows
import Derived.ProofKit
import Derived.OpenShut
import Derived.ShutString
import Derived.ChangeOld
import Derived.Below
import Derived.JoinedCond
namespace Go.Proofs.Yticdpidngmeebaa.wireAgain
open Go.ChangeShapes Go.WideShapes Go.ChangeAt Go.RowKit
open Go.ChangeMaps (open_string shut_string)
set_option linter.unusedVariables false
set_option maxRecDepth 20000

theorem own : ownKnob Try.prog.godebug = none := by kernel_rfl

theorem cell_block {w : World} {a : Addr} {v : Value} (h : w.cell? a = some v) : a.block < w.heap.size := World.block_lt_of_cell? w a h
theorem in_block {w : World} {a : Option Addr} {c : Nat} {l : List UInt8} (h : BytesIn2 w a c l) : ∀ x, a = some x → l.length ≠ 0 → x.block < w.heap.size := fun x hx hl => by
  rcases h.1.2.2 with e | ⟨y, e, hc⟩
  · exact absurd e hl
  · rw [hx] at e
    injection e with e
    subst e
    have := cell_block (hc 0 (by omega))
    have hb : (x.add 0).block = x.block := by unfold Addr.add; split <;> rfl
    rw [hb] at this
    exact this
set_option maxRecDepth 100000 in
set_option maxHeartbeats 8000000 in
theorem walk (pa : Option Addr) (len cap : Nat) (zs : List Int) (m : Msg) (aq a1 a2 a3 : Option Addr) (cq c1 c2 c3 : Nat) (at0 x0 : Int) (w : World) (hI : IsRow .u8 w pa len cap zs) (hG : MsgGot w m aq a1 a2 a3 cq c1 c2 c3 1048576) (hat : (Lit.int .i64 at0).wf = true) (hx : (Lit.int .u8 x0).wf = true) :
    Calls Try.prog 6 #[.slice pa len cap, msgV m aq a1 a2 a3 cq c1 c2 c3, .int .i64 at0, .int .u8 x0] w fun e w' => e = .returned (.bool true) ∧ Below w.heap.size w w' := by
  obtain ⟨bs0, rfl, hB0⟩ := bytes_of_row hI
  have HB00 := Lib.hid hB0
  have hfan := hG.an.at0.2.2.1
  have hfau := hG.au.at0.2.2.1
  have hfmo := hG.mo.at0.2.2.1
  have HGD := fun V (h : Below w.heap.size w V) => Lib.hid (goodMsg9_any m aq a1 a2 a3 cq c1 c2 c3 V (hG.ins.below h) ⟨fun q hq => by have := hG.qs.room q hq; omega, fun r hr => by have := hG.an.room r hr; exact ⟨by have := this.1; omega, by have := this.2.1; omega⟩, fun r hr => by have := hG.au.room r hr; exact ⟨by have := this.1; omega, by have := this.2.1; omega⟩, fun r hr => by have := hG.mo.room r hr; exact ⟨by have := this.1; omega, by have := this.2.1; omega⟩⟩)
  have HMY := Lib.hid (goodM_may (m := m) hfan hfau hfmo)
  have HRM := Lib.hid (goodM_room m)
  have HBK : Hid (12 + (goodM m).qs.length * 16304 + ((goodM m).an.length + (goodM m).au.length + (goodM m).mo.length) * 81845 ≤ 900000) := Lib.hid (by
    have l0 : (goodM m).qs.length ≤ 3 := by show ((m.qs.take 3).map goodQ).length ≤ 3; rw [List.length_map, List.length_take]; omega
    have l1 : (goodM m).an.length ≤ 3 := goodRs_len _
    have l2 : (goodM m).au.length ≤ 3 := goodRs_len _
    have l3 : (goodM m).mo.length ≤ 3 := goodRs_len _
    exact Nat.le_trans (Nat.add_le_add (Nat.add_le_add_left (Nat.mul_le_mul_right 16304 l0) 12) (Nat.mul_le_mul_right 81845 (show _ ≤ 9 by omega))) (by decide))
  have HWL : Hid ((wB (goodM m)).length ≤ 900000) := Lib.hid (by
    have l0 : (goodM m).qs.length ≤ 3 := by show ((m.qs.take 3).map goodQ).length ≤ 3; rw [List.length_map, List.length_take]; omega
    have l1 : (goodM m).an.length ≤ 3 := goodRs_len _
    have l2 : (goodM m).au.length ≤ 3 := goodRs_len _
    have l3 : (goodM m).mo.length ≤ 3 := goodRs_len _
    have hp := mayM_parts HMY.out
    have h0 : Wok 12 (hdB (goodM m), [], []) := ⟨Nat.le_refl _, Nat.zero_le _, rfl, by simp, by simp⟩
    have h1 := Wok.qs (goodM m).qs _ h0 hp.1
    have h2 := Wok.rs (goodM m).an _ _ h1 hp.2.2.2.1 (goodRs_fit hfan)
    have h3 := Wok.rs (goodM m).au _ _ h2 hp.2.2.2.2.1 (goodRs_fit hfau)
    have h4 := (Wok.rs (goodM m).mo _ _ h3 hp.2.2.2.2.2 (goodRs_fit hfmo)).len
    refine Nat.le_trans h4 ?_
    have k0 := Nat.mul_le_mul_right 16304 l0
    have k1 := Nat.mul_le_mul_right 81845 l1
    have k2 := Nat.mul_le_mul_right 81845 l2
    have k3 := Nat.mul_le_mul_right 81845 l3
    exact Nat.le_trans (Nat.add_le_add (Nat.add_le_add (Nat.add_le_add (Nat.add_le_add_left k0 12) k1) k2) k3) (by decide))
  have HPRE : Hid (12 ≤ (wB (goodM m)).length) := Lib.hid (by
    obtain ⟨x, hx⟩ := wB_pre (goodM m)
    rw [hx, List.length_append, hd_len]
    omega)
  have HLV := fun V => Lib.hid (lives9_any V)
  have HAT := Lib.hid hat
  generalize goodM m = gm at *
  obtain ⟨vm, hvm, lvm, ovm⟩ := msg_row m aq a1 a2 a3 cq c1 c2 c3
  obtain ⟨W, hW⟩ : ∃ W, w.alloc (.cells vm.toArray 25) = W := ⟨_, rfl⟩
  have HBX : Hid (CellsAt W w.heap.size vm) := Lib.hid (by rw [← hW]; exact CellsAt.new _ _ _)
  have HB0 : Hid (Below w.heap.size w W) := Lib.hid (by rw [← hW]; exact (Below.refl _ _).alloc (Nat.le_refl _) _)
  rw [hvm] at HGD ⊢
  have hcp : bs0.length ≤ cap := hB0.1.1
  have hcm : cap ≤ maxLen := hB0.1.2.1
  have HIN : Hid (0 < bs0.length → ∃ y, pa = some y) := Lib.hid (fun h => by
    rcases hB0.1.2.2 with e | ⟨y, e, _⟩
    · omega
    · exact ⟨y, e⟩)
  obtain ⟨len, hlen⟩ : ∃ n, bs0.length = n := ⟨_, rfl⟩
  have HLEN := Lib.hid hlen
  rw [hlen] at hcp HIN ⊢
  clear hG hfan hfau hfmo hvm ovm hI hB0 hx hat hlen
  go_enter Try.func6, Try.ntmps6
  go_upto_if 21 with fail
  try rw [hW]
  clear hW
  obtain ⟨Gm, hGm⟩ : ∃ Gm, w.heap.size = Gm := ⟨_, rfl⟩
  have HGM := Lib.hid hGm
  rw [hGm] at HBX
  try rw [hGm]
  clear hGm
  go_cut [0] from 19 (fun s0 wx => ∃ (l : List UInt8), l.length ≤ 300 ∧ s0 = .slice pa l.length cap ∧ Hid (BytesIn2 w pa cap l) ∧ Hid (CellsAt wx Gm vm) ∧ Hid (Below w.heap.size w wx))
  case first =>
    by_cases h3 : 300 < len
    · have hd : decide ((300 : Int) < (len : Int)) = true := decide_eq_true (by omega)
      have hdn : decide (300 < len) = true := decide_eq_true h3
      try rw [hd]
      try rw [hdn]
      obtain ⟨y, hy⟩ := HIN.out (by omega)
      subst hy
      have hcp3 : 300 ≤ cap := by omega
      have hcpi : ¬ ((cap : Int) < 300) := by omega
      have hcp0 : ¬ (cap = 0) := by omega
      have HL : Hid ((bs0.take 300).length = 300) := Lib.hid (by rw [List.length_take, HLEN.out]; omega)
      go_wp2_with fail
      go_meet
      case rel => exact ⟨bs0.take 300, by rw [HL.out]; exact Nat.le_refl _, by rw [HL.out], Lib.hid (HB00.out.take 300), HBX, HB0⟩
    · have hd : decide ((300 : Int) < (len : Int)) = false := decide_eq_false (by omega)
      have hdn : decide (300 < len) = false := decide_eq_false h3
      try rw [hd]
      try rw [hdn]
      go_wp2_with fail
      go_meet
      case rel => exact ⟨bs0, by rw [HLEN.out]; omega, by rw [HLEN.out], HB00, HBX, HB0⟩
  case rest =>
    clear HBX HB0 HIN HLEN hcp hcm HB00
    obtain ⟨l, hl300, rfl, HBL, HBX, HB0⟩ := hcut
    obtain ⟨ln, hln⟩ : ∃ n, l.length = n := ⟨_, rfl⟩
    have HLN := Lib.hid hln
    rw [hln] at hl300 ⊢
    clear hln
    have HGW := HGD wc HB0.out
    go_wp2_with (refine load_msg HBX lvm _ rfl rfl rfl ?_)
    refine HGW.out.mono ?_
    rintro e w1 ⟨bq, b1, b2, b3, dq, d1, d2, d3, rfl, hm1, hb1⟩
    have HM1 := Lib.hid hm1
    have HB1 := Lib.hid (chain HB0.out hb1)
    clear hm1 hb1 HGW HGD HBX HB0
    have HRW := Lib.hid (refWrite9_any gm bq b1 b2 b3 dq d1 d2 d3 w1 HM1.out HMY.out HRM.out.2 HBK.out)
    go_wp2_with fail
    refine HRW.out.mono ?_
    rintro e w2 ⟨v2, rfl, ho2, hb2⟩
    have HB2 := Lib.hid (chain HB1.out hb2)
    have HS12 : Hid (w.heap.size ≤ w1.heap.size) := Lib.hid HB1.out.size
    have HO2 := Lib.hid ho2
    obtain ⟨g, cg, hv2⟩ := own_some ho2 (by have := HPRE.out; omega)
    have HGB : Hid (w1.heap.size ≤ g ∧ g < w2.heap.size) := Lib.hid (ho2.lt g (by rw [hv2]; rfl))
    have hLm : (wB gm).length ≤ 900000 := HWL.out
    obtain ⟨L, hL⟩ : ∃ L, (wB gm).length = L := ⟨_, rfl⟩
    have HL := Lib.hid hL
    rw [hv2] at HO2
    rw [hL] at hv2 hLm
    subst hv2
    have hL12 : 12 ≤ L := by have := HPRE.out; rw [hL] at this; exact this
    have HAR := Lib.hid (around_any at0 L w2 HAT.out (by omega) (by omega))
    have hkL := aroundN_lt at0 L (by omega)
    generalize aroundN at0 L = k at *
    clear hb2 ho2 HRW HM1 HMY HRM HBK HPRE hL HB1 HAT
    go_wp2_with fail
    refine HAR.out.mono ?_
    rintro e w3 ⟨rfl, rfl⟩
    have hkl : k < (wB gm).length := by rw [HL.out]; exact hkL
    obtain ⟨q, hq⟩ : ∃ q, (wB gm)[k] = q := ⟨_, rfl⟩
    have hck := HO2.out.cells (g := g) rfl k (.int .u8 ((q.toNat : Nat) : Int)) (by unfold bys; rw [List.getElem?_map, List.getElem?_eq_getElem hkl, hq]; rfl)
    rw [add_none] at hck
    obtain ⟨y, hy⟩ : ∃ y : UInt8, bits .xor .u8 ((q.toNat : Nat) : Int) x0 = ((y.toNat : Nat) : Int) := ⟨_, (u8_of (wf_bits .xor .u8 _ _)).symm⟩
    rw [HL.out] at HO2
    have HST : Hid ((w2.setCell ⟨g, k, none⟩ (.int .u8 ((y.toNat : Nat) : Int))).ownsRow w1.heap.size 5 1 (.slice (some ⟨g, 0, none⟩) L cg) ((wB gm).set k y).length (bys ((wB gm).set k y)) ∧ w2.frozen? ⟨g, k, none⟩ = false) := Lib.hid (by
      have h0 := HO2.out
      rw [← HL.out] at h0
      have := own_setB h0 k y hkl
      rw [HL.out] at this
      exact ⟨this.1, this.2.1⟩)
    have hfk := HST.out.2
    have hb1 : (0 : Int) ≤ (k : Int) := by omega
    have hb2 : (k : Int) < (L : Int) := by omega
    have HLS : Hid (((wB gm).set k y).length = L) := Lib.hid (by rw [List.length_set, HL.out])
    generalize (wB gm).set k y = os at *
    have hq2 := q.toNat_lt
    generalize q.toNat = qn at *
    have HB3 : Hid (Below w.heap.size w (w2.setCell ⟨g, k, none⟩ (.int .u8 ((y.toNat : Nat) : Int)))) := Lib.hid (HB2.out.setCell (p := ⟨g, k, none⟩) (by show w.heap.size ≤ g; have h1 := HGB.out.1; have h2 := HS12.out; omega) _)
    clear HAR HO2 hkl hq
    go_upto_region 6 with fail
    obtain ⟨w4, hw4⟩ : ∃ w4, w2.setCell ⟨g, k, none⟩ (.int .u8 ((y.toNat : Nat) : Int)) = w4 := ⟨_, rfl⟩
    rw [hw4] at HST HB3
    try rw [hw4]
    clear hw4 hck hfk hy hkL hb1 hb2 hq2
    have HOS : Hid (BytesIn2 w4 (some ⟨g, 0, none⟩) cg os ∧ g < w4.heap.size) := Lib.hid (by
      obtain ⟨az, cz, hz, hbz⟩ := in_own (show w4.ownsRow w1.heap.size 5 1 (.slice (some ⟨g, 0, none⟩) L cg) os.length (bys os) from HST.out.1)
      injection hz with z1 z2 z3
      subst z1
      subst z3
      exact ⟨hbz, (HST.out.1.lt g rfl).2⟩)
    have HBI : Hid (BytesIn2 w4 pa cap l) := Lib.hid (HBL.out.below HB3.out)
    obtain ⟨A, WA, hA, hWA, HRA, HAL, hbA⟩ : ∃ A WA, w4.heap.size = A ∧ w4.alloc (.cells #[.slice pa ln cap, .slice (some ⟨g, 0, none⟩) L cg] 27) = WA ∧ Hid (WA.rangeAt A 0 [.slice pa ln cap, .slice (some ⟨g, 0, none⟩) L cg]) ∧ Hid (A < WA.heap.size) ∧ Below w4.heap.size w4 WA := ⟨_, _, rfl, rfl, Lib.hid (built_new _), Lib.hid (by simp), (Below.refl _ _).alloc (Nat.le_refl _) _⟩
    have HBA := Lib.hid (chain HB3.out hbA)
    have HSEL : Hid (∀ k, k < 2 → ∃ (ad : Option Addr) (c n : Nat) (bs : List UInt8), WA.cell? ⟨A, k, none⟩ = some (.slice ad n c) ∧ bs.length = n ∧ BytesIn2 WA ad c bs) := Lib.hid (fun k hk => by
      match k, hk with
      | 0, _ => exact ⟨pa, cap, ln, l, HRA.out 0 _ rfl, HLN.out, HBI.out.below hbA⟩
      | 1, _ => exact ⟨_, cg, L, os, HRA.out 1 _ rfl, HLS.out, HOS.out.1.below hbA⟩)
    clear hbA HOS HBI HST HB3 HBL HB2 HGB HS12
    go_wp2_with fail
    try rw [hWA]
    try rw [hA]
    clear hWA hA
    go_loopw [12] (fun s12 wl => ∃ k : Nat, k ≤ 2 ∧ s12 = .int .i64 (k : Int) ∧ Hid (Below WA.heap.size WA wl)) (fun i _ => 2 - (intOf i).toNat)
    case atStart => exact ⟨0, Nat.zero_le _, rfl, Lib.hid (Below.refl _ _)⟩
    case round =>
      obtain ⟨k, hk, rfl, HBk⟩ := hrel
      by_cases hk2 : k < 2
      · have hd : decide ((k : Int) < 2) = true := decide_eq_true (by omega)
        have hdn : decide (k < 2) = true := decide_eq_true hk2
        obtain ⟨ad, c, n, bs, hcl, hn, hbi⟩ := HSEL.out k hk2
        have hck := (HBk.out.cell (p := ⟨A, k, none⟩) HAL.out).trans hcl
        have HBI := Lib.hid (hbi.below HBk.out)
        have HRD := Lib.hid (read9L_any HBI.out (in_block HBI.out))
        rw [hn] at HRD
        have hb1 : (0 : Int) ≤ (k : Int) := by omega
        have hb2 : (k : Int) < 2 := by omega
        clear hcl hbi hn HBI
        go_wp2_with fail
        refine HRD.out.mono ?_
        rintro e w5 ⟨hb5, hr5⟩
        have HB5 := Lib.hid (chain HBk.out hb5)
        have HZ5 : Hid (CellsAt (w5.alloc (.cells zM.toArray 25)) w5.heap.size zM) := Lib.hid (CellsAt.new w5 _ zM)
        clear hb5 HRD hck
        rcases hr5 with ⟨_, ee, hee, rfl⟩ | ⟨_, mm, eq, e1, e2, e3, fq, f1, f2, f3, hmm, rfl, hmi⟩
        · have hz : (ee != 0) = true := by simpa using hee
          have HEE := Lib.hid hee
          clear hee
          go_upto_region 11 with (have HZ := HZ5; refine store_msg HZ rfl _ _ rfl rfl (vs := zM) rfl rfl rfl rfl (fun W7 HW7 HX7 => ?_); clear HZ5)
          have HB7 : Hid (Below WA.heap.size WA W7) := Lib.hid (chain HB5.out (by rw [HW7.out]; exact below_cells (Nat.le_refl _) _ _ _ ((Below.refl _ _).alloc (Nat.le_refl _) _)))
          clear HW7 HX7 HZ HB5
          go_wp2_with fail
          go_roundw
          case rel => exact ⟨k + 1, by omega, by go_num, HB7⟩
          case measure => simp [intOf]; omega
        · have hz : ((0 : Int) != 0) = false := rfl
          have HGI := Lib.hid (mgP_is hmm)
          have HTR : Hid (mgP (wB mm) = some mm) := Lib.hid (mgP_wB HGI.out.1 HGI.out.2.2.1 HGI.out.2.2.2.2.1 HGI.out.2.2.2.2.2.1 HGI.out.2.2.2.2.2.2)
          have HLM : Hid (Lens mm) := Lib.hid (by have := HGI.out.2.2.1; exact ⟨by have := this.1; omega, by have := this.2.1; omega, by have := this.2.2.1; omega, by have := this.2.2.2; omega⟩)
          have HMI := Lib.hid hmi
          obtain ⟨vr, hvr, lvr, ovr⟩ := msg_row mm eq e1 e2 e3 fq f1 f2 f3
          have HVR := Lib.hid hvr
          rw [hvr]
          clear hmi hvr hmm
          go_upto_region 11 with (have HZ := HZ5; refine store_msg HZ rfl _ _ rfl rfl rfl rfl lvr ovr (fun W7 HW7 HX7 => ?_); clear HZ5)
          have hb7 : Below w5.heap.size w5 W7 := by rw [HW7.out]; exact below_cells (Nat.le_refl _) _ _ _ ((Below.refl _ _).alloc (Nat.le_refl _) _)
          have HB7 := Lib.hid (chain HB5.out hb7)
          have HM7 := Lib.hid (HMI.out.below hb7)
          obtain ⟨G7, hG7⟩ : ∃ G7, w5.heap.size = G7 := ⟨_, rfl⟩
          rw [hG7] at HX7
          try rw [hG7]
          clear hG7 hb7 HW7 HZ HMI HB5
          have HWR := Lib.hid (write9_any mm eq e1 e2 e3 fq f1 f2 f3 W7 HM7.out HGI.out.2.1 HGI.out.2.2.1)
          rw [HVR.out] at HWR
          go_wp2_with (refine load_msg HX7 lvr _ rfl rfl rfl ?_)
          refine HWR.out.mono ?_
          rintro e w8 h8
          have HB8 := Lib.hid (chain HB7.out h8.1)
          have HX8 := Lib.hid (HX7.out.below h8.1)
          have HM8 := Lib.hid (HM7.out.below h8.1)
          rcases h8.2 with ⟨hm, _⟩ | ⟨_, hlen, rfl⟩ | ⟨_, hlen, v', rfl, ho⟩
          · rw [HGI.out.1] at hm; exact absurd hm (by decide)
          · clear h8 HWR HX7 HM7 HB7
            have HMA := Lib.hid (may9_any mm eq e1 e2 e3 fq f1 f2 f3 w8 HM8.out HGI.out.2.1)
            rw [HVR.out, HGI.out.1] at HMA
            go_wp2_with (refine load_msg HX8 lvr _ rfl rfl rfl ?_)
            refine HMA.out.mono ?_
            rintro e w9 ⟨rfl, hb9⟩
            have HB9 := Lib.hid (chain HB8.out hb9)
            clear hb9 HMA HX8 HM8 HB8
            go_wp2_with fail
            go_roundw
            case rel => exact ⟨k + 1, by omega, by go_num, HB9⟩
            case measure => simp [intOf]; omega
          · have HO := Lib.hid ho
            obtain ⟨x8, y8, hv8⟩ := own_slice ho
            obtain ⟨L8, hL8⟩ : ∃ L, (wB mm).length = L := ⟨_, rfl⟩
            have HL8 := Lib.hid hL8
            rw [hL8] at hv8
            subst hv8
            clear h8 HWR HX7 HM7 HB7 ho hL8
            have HMA := Lib.hid (may9_any mm eq e1 e2 e3 fq f1 f2 f3 w8 HM8.out HGI.out.2.1)
            rw [HVR.out, HGI.out.1] at HMA
            go_wp2_with (refine load_msg HX8 lvr _ rfl rfl rfl ?_)
            refine HMA.out.mono ?_
            rintro e w9 ⟨rfl, hb9⟩
            have HB9 := Lib.hid (chain HB8.out hb9)
            have HX9 := Lib.hid (HX8.out.below hb9)
            have HM9 := Lib.hid (HM8.out.below hb9)
            replace HO := Lib.hid (own_below8 HO.out hb9)
            have HRE : Hid (Calls Try.prog 15 #[.slice x8 L8 y8] w9 (ReadRet w9 (wB mm))) := Lib.hid (by
              obtain ⟨az, cz, hz2, hbz⟩ := in_own HO.out
              injection hz2 with z1 z2 z3
              subst z1
              subst z3
              have := read9L_any hbz (in_block hbz)
              rw [HL8.out] at this
              exact this)
            clear hb9 HMA HX8 HM8 HB8 HO
            go_wp2_with fail
            refine HRE.out.mono ?_
            rintro e wa ⟨hba, hra⟩
            have HBa := Lib.hid (chain HB9.out hba)
            have HXa := Lib.hid (HX9.out.below hba)
            have HMa := Lib.hid (HM9.out.below hba)
            clear hba HX9 HM9 HB9 HRE
            rcases hra with ⟨hno, _⟩ | ⟨_, m2, gq, g1, g2, g3, hq, h1, h2, h3, hmm2, rfl, hmi2⟩
            · have := hno hlen
              rw [HTR.out] at this
              cases this
            · rw [HTR.out] at hmm2
              injection hmm2 with hmm2
              subst hmm2
              have HMI2 := Lib.hid hmi2
              have HZa : Hid (CellsAt (wa.alloc (.cells zM.toArray 25)) wa.heap.size zM) := Lib.hid (CellsAt.new wa _ zM)
              obtain ⟨vs2, hvs2, lvs2, ovs2⟩ := msg_row mm gq g1 g2 g3 hq h1 h2 h3
              have HVS := Lib.hid hvs2
              rw [hvs2]
              clear hmi2 hvs2 hlen
              go_upto_region 17 with (have HZ := HZa; refine store_msg HZ rfl _ _ rfl rfl rfl rfl lvs2 ovs2 (fun Wb HWb HXb => ?_); clear HZa)
              have hbb : Below wa.heap.size wa Wb := by rw [HWb.out]; exact below_cells (Nat.le_refl _) _ _ _ ((Below.refl _ _).alloc (Nat.le_refl _) _)
              have HBb := Lib.hid (chain HBa.out hbb)
              have HYb := Lib.hid (HXa.out.below hbb)
              have HMb := Lib.hid (HMa.out.below hbb)
              have HNb := Lib.hid (HMI2.out.below hbb)
              have HSA := Lib.hid (refSame9_any mm mm eq e1 e2 e3 fq f1 f2 f3 gq g1 g2 g3 hq h1 h2 h3 Wb HMb.out HNb.out HLM.out HLM.out)
              rw [HVR.out, HVS.out, decide_eq_true rfl] at HSA
              obtain ⟨Gb, hGb⟩ : ∃ Gb, wa.heap.size = Gb := ⟨_, rfl⟩
              rw [hGb] at HXb
              try rw [hGb]
              clear hGb hbb HWb HZ HXa HMa HMI2 HBa HMb HNb
              go_wp2_with (first | refine load_msg HYb lvr _ rfl rfl rfl ?_ | refine load_msg HXb lvs2 _ rfl rfl rfl ?_)
              refine HSA.out.mono ?_
              rintro e wd ⟨rfl, hbd⟩
              have HBd := Lib.hid (chain HBb.out hbd)
              clear hbd HSA HXb HYb HBb
              go_wp2_with fail
              go_roundw
              case rel => exact ⟨k + 1, by omega, by go_num, HBd⟩
              case measure => simp [intOf]; omega
      · obtain rfl : k = 2 := by omega
        have hd : decide (((2 : Nat) : Int) < 2) = false := by simp
        go_wp2_with fail
        refine (HLV _).out.mono ?_
        rintro e w5 ⟨rfl, hb5⟩
        have HB5 := Lib.hid (chain HBA.out (chain HBk.out hb5))
        clear hb5
        go_wp2_with fail
        go_ret
        exact ⟨rfl, HB5.out⟩

theorem contract (H : Type) (enc : TypeId × Value → H) (W : World) (base : Nat) (args : Array Value) (ds gs : List (DataW H)) (before : List MemPlace)
    (hval0 : ∀ (j : Nat) t v, Try.f6.params[j]? = some t → args[j]? = some v → Value.okWide Try.prog W .any base t v)
    (hW : DataW.Whole enc Try.prog Try.f6.params.toList Rows.wireAgainSpec.vars false W args.toList ds gs before) (hk : Rows.uptoSmall H (ds ++ gs) = true) :
    Calls Try.prog 6 args W fun e W' => ∃ v, e = .returned v ∧ Rows.wireAgainSpec.post enc Try.prog Try.f6 false true false false W args v W' := by
  have hkb : ∀ d ∈ ds, Rows.uptoBulk d ≤ 1048576 := fun d hd => Nat.le_trans (bulk_mem (List.mem_append_left _ hd)) (of_decide_eq_true hk)
  clear hk
  have hval : ∀ (j : Nat) t v, Try.f6.params[j]? = some t → args[j]? = some v → Value.okWide Try.prog W .any base t v := hval0
  have hW' := hW
  obtain ⟨p, q, hA0, hV, rfl, hfz, hnd⟩ := hW
  have hA : DataW.TrodAll enc Try.prog W 0 (fun _ => true) true Try.f6.params.toList args.toList ds p := hA0
  rw [Try.params6] at hA hval
  obtain ⟨v0, vs0, d0, ds0, p0, q0, hargs, rfl, rfl, h0, r0⟩ := trodAll_cons hA
  obtain ⟨v1, vs1, d1, ds1, p1, q1, rfl, rfl, rfl, h1, r1⟩ := trodAll_cons r0
  obtain ⟨v2, vs2, d2, ds2, p2, q2, rfl, rfl, rfl, h2, r2⟩ := trodAll_cons r1
  obtain ⟨v3, vs3, d3, ds3, p3, q3, rfl, rfl, rfl, h3, r3⟩ := trodAll_cons r2
  obtain ⟨rfl, rfl, rfl⟩ := trodAll_nil r3
  obtain rfl : args = #[v0, v1, v2, v3] := by cases args; simp_all
  obtain ⟨rfl, rfl⟩ := trodVars_none hV
  obtain ⟨a0, len0, cap0, rfl⟩ := okWide_slice Try.underlying27 (hval 0 27 v0 rfl rfl)
  have k0 := h0
  have lt0 : ∀ x ∈ p0, x.block < W.heap.size := by obtain ⟨m, hm⟩ := k0; exact DataW.trod_lt m _ _ _ hm
  obtain ⟨z0, w0⟩ : ∃ zs, IsRow .u8 W a0 len0 cap0 zs := by
    obtain ⟨fuel, hf⟩ := h0
    rcases open_ints Try.underlying27 Try.underlying5 (by kernel_rfl) hf with ⟨hcs, _⟩ | ⟨x, l, c, zs, hcs, _, hl, hm, hz, _, hcell, hwz⟩
    · simp [Value.cells] at hcs
      obtain ⟨rfl, rfl, rfl⟩ := hcs
      exact ⟨[], .inl ⟨rfl, rfl, rfl, rfl⟩⟩
    · simp [Value.cells] at hcs
      obtain ⟨rfl, rfl, rfl⟩ := hcs
      exact ⟨zs, .inr ⟨_, rfl, hl, hm, by simpa using hz, hcell, hwz⟩⟩
  have k1 := h1
  have lt1 : ∀ x ∈ p1, x.block < W.heap.size := by obtain ⟨m, hm⟩ := k1; exact DataW.trod_lt m _ _ _ hm
  obtain ⟨m1, xq1, xa1, xb1, xc1, yq1, ya1, yb1, yc1, rfl, w1⟩ := open_msg (hval 1 25 v1 rfl rfl) h1
  replace w1 := w1.wider (hkb d1 (by simp))
  obtain ⟨a2, rfl, rfl, rfl, w2⟩ := open_int Try.underlying3 (hval 2 3 v2 rfl rfl) h2
  obtain ⟨a3, rfl, rfl, rfl, w3⟩ := open_int Try.underlying5 (hval 3 5 v3 rfl rfl) h3
  clear hA0 hval0
  refine (walk a0 len0 cap0 z0 m1 xq1 xa1 xb1 xc1 yq1 ya1 yb1 yc1 a2 a3 W w0 w1 w2 w3).mono fun e W' ⟨he, bel⟩ => ?_
  subst he
  exact ⟨_, rfl, _, _, _, [], _, [], hW', trodAll_mk1 (shut_bool Try.underlying4 _), (trodAll_cons_mk (Below.trod laidOut (by kernel_rfl) (of_decide_eq_true (by kernel_rfl)) k0 bel lt0) (trodAll_cons_mk (Below.trod laidOut (by kernel_rfl) (of_decide_eq_true (by kernel_rfl)) k1 bel lt1) (trodAll_cons_mk (shut_int Try.underlying3 w2) (trodAll_cons_mk (shut_int Try.underlying5 w3) trodAll_mk0)))), rfl, bel.frame _, fun h => by cases h⟩

set_option maxRecDepth 100000 in
theorem lifted (os : Os) (started : os.Started) (H : Type) (enc : TypeId × Value → H) (F : Stop.Interp) :
    ReturnsInHanded {} Try.checked os 6 .any ((Rows.OpenSpec.upto Rows.wireAgainSpec).pre6 enc Try.prog Try.f6 Rows.wireAgainUptoRow.domain false) (((Rows.OpenSpec.upto Rows.wireAgainSpec).at F).post enc Try.prog Try.f6 false true false false) := by
  refine returnsInHanded_of_cond (C := Try.checked) (s := Rows.OpenSpec.upto Rows.wireAgainSpec) (k := Rows.uptoSmall) rfl own started (by kernel_rfl) Try.func6
    (OpenSpec.witness (enc := enc) (C := Try.checked) (s := Rows.OpenSpec.upto Rows.wireAgainSpec) (k := Rows.uptoSmall) rfl false ⟨#[], #[.slice none 0 0, .agg #[.int .i64 0, .int .i64 0, .slice none 0 0, .slice none 0 0, .slice none 0 0, .slice none 0 0], .int .i64 0, .int .u8 0], []⟩ 8 (by kernel_rfl) (by kernel_rfl) (by kernel_rfl)
      (x := ([.nil, .agg [.lit (.int .i64 0), .lit (.int .i64 0), .nil, .nil, .nil, .nil], .lit (.int .i64 0), .lit (.int .u8 0)], [], [])) (by kernel_rfl) rfl (by kernel_rfl)) ?_
  intro W base args ds gs before hval hW _ hk _
  exact contract H enc W base args ds gs before hval hW hk

theorem proved : Rows.WireAgainUptoSaid :=
  OpenClaim.holds_of_cond 6 Try.f6 rfl rfl rfl rfl rfl rfl rfl ⟨rfl, rfl, rfl, rfl, rfl⟩ rfl rfl rfl rfl rfl (by kernel_rfl) Try.func6 (by kernel_rfl)
    (of_decide_eq_true (by kernel_rfl)) (by unfold Func.isWrapper; first | (rw [if_pos (by decide +kernel)]; kernel_rfl) | (rw [if_neg (by decide +kernel)]; exact ⟨rfl, rfl⟩))
    (fun os started H enc _ F => lifted os started H enc F)
#print axioms proved
end Go.Proofs.Yticdpidngmeebaa.wireAgain

/- Each query that is sent has the Id of its draw, and goes to the server behind the last one: for every row of draws, whatever number of servers and tries. -/
import Derived.Test.YtedmkdjijhflnaaB6
import Derived.Test.YtedmkdjijhflnaaRows
import Derived.ProofKit
import Derived.Deep.Cut
import Derived.Deep.RegionHeld3
import Derived.OpenShut
import Derived.ShutString
import Derived.ChangeOld
import Derived.Below
namespace Go.Proofs.Ytedmkdjijhflnaa.solveDraws
open Go.ChangeShapes Go.WideShapes Go.ChangeAt Go.RowKit
open Go.ChangeMaps (open_string shut_string)
set_option linter.unusedVariables false
set_option maxRecDepth 20000
set_option linter.unusedSimpArgs false

theorem own : ownKnob Try.prog.godebug = none := by kernel_rfl

/-- A row of numbers that came in. -/
def IsRow (k : IntKind) (W : World) (a : Option Addr) (len cap : Nat) (zs : List Int) : Prop :=
  (a = none ∧ len = 0 ∧ cap = 0 ∧ zs = []) ∨ ∃ x : Addr, a = some x ∧ len ≤ cap ∧ cap ≤ maxLen ∧ zs.length = cap ∧ (∀ i, i < zs.length → W.cell? (x.add i) = some (.int k (zs.getD i 0))) ∧ ∀ n ∈ zs, (Lit.int k n).wf = true
/-- The lookup behind so many tries. -/
def drL (c : Cfg) (k : Nat) (id : Int) : Lk := ⟨0, nmA, ⟨id, nmA, 28, (k : Int) % c.sv⟩, (k : Int), (k : Int) + 1, 0, 604800⟩
theorem dr_ask : askOk nmA 28 = true := by kernel_rfl
theorem dr_new {c : Cfg} (hw : c.wt = 1) (hs : 1 ≤ c.sv) : newLk c 0 nmA 28 0 0 = drL c 0 0 := by
  unfold newLk sendL drL
  have h1 : idP 0 = 0 := rfl
  rw [h1, hw]
  simp
theorem dr_next {c : Cfg} (hw : c.wt = 1) (hs : 1 ≤ c.sv) (k : Nat) (id d : Int) : againL c (drL c k id) d ((k : Int) + 1) = drL c (k + 1) (idP d) := by
  unfold againL sendL drL
  simp only [hw]
  have e1 : ((k : Int) % c.sv + 1) % c.sv = ((k + 1 : Nat) : Int) % c.sv := by
    rw [Int.emod_add_emod]
    congr 1
  rw [e1]
  have e2 : (k : Int) + 1 = ((k + 1 : Nat) : Int) := by omega
  rw [e2]
theorem dr_id (d : Int) : idP d = ((aroundN d 65536 : Nat) : Int) := by
  unfold idP aroundN
  split
  · rw [show -1 - d = -(d + 1) by omega]; omega
  · omega
theorem dr_tick {c : Cfg} (hw : c.wt = 1) (hs : 1 ≤ c.sv) (k g : Nat) (id d : Int) (hd : (Lit.int .i64 d).wf = true) :
    tickA c ((k : Int) + 1) d 0 [(g, drL c k id)] = (if (k : Int) + 1 = c.tr then [] else [(g, drL c (k + 1) (idP d))]) ∧ tickE c ((k : Int) + 1) d 0 [(g, drL c k id)] = [if (k : Int) + 1 = c.tr then evF 0 9 else evS (drL c (k + 1) (idP d))] := by
  have hu : (drL c k id).un ≤ (k : Int) + 1 := Int.le_refl _
  have ho : overL c (drL c k id) = decide ((k : Int) + 1 = c.tr) := rfl
  have e0 : IntKind.i64.wrap (d + 0) = d := by rw [Int.add_zero]; exact wrap_id hd
  have hn : (drL c k id).n = 0 := rfl
  rw [tickA_cons, tickE_cons, if_pos hu, if_pos hu, e0, ho]
  unfold againE
  rw [ho, dr_next hw hs, hn]
  by_cases h : (k : Int) + 1 = c.tr
  · rw [decide_eq_true h]
    simp [h, tickA, tickE]
  · rw [decide_eq_false h]
    simp [h, tickA, tickE]
set_option maxRecDepth 100000 in
set_option maxHeartbeats 8000000 in
theorem walk (a : Option Addr) (len cap : Nat) (zs : List Int) (z t : Int) (w : World) (hI : IsRow .i64 w a len cap zs) (w0 : (Lit.int .i64 z).wf = true) (w1 : (Lit.int .i64 t).wf = true) :
    Calls Try.prog 4 #[.slice a len cap, .int .i64 z, .int .i64 t] w fun e w' => e = .returned (.bool true) ∧ Below w.heap.size w w' := by
  have hlen : len ≤ 9223372036854775807 := by
    rcases hI with ⟨_, rfl, _⟩ | ⟨x, _, h1, h2, _⟩
    · decide
    · unfold maxLen at h2; omega
  obtain ⟨N, hN⟩ : ∃ N, min len 5 = N := ⟨_, rfl⟩
  have hN5 : N ≤ 5 := by omega
  have hNl : N ≤ len := by omega
  have HT : Hid (∀ k, k < N → ∃ ad : Addr, a = some ad ∧ w.cell? (ad.add k) = some (.int .i64 (zs.getD k 0)) ∧ (Lit.int .i64 (zs.getD k 0)).wf = true) := Lib.hid (fun k hk => by
    rcases hI with ⟨_, h0, _⟩ | ⟨ad, e, h1, h2, h3, h4, h5⟩
    · omega
    · have hkz : k < zs.length := by omega
      exact ⟨ad, e, h4 k hkz, h5 _ (by rw [List.getD_eq_getElem?_getD, List.getElem?_eq_getElem hkz]; exact List.getElem_mem hkz)⟩)
  have HLV := fun W => Lib.hid (lives12_any W)
  have HNW := Lib.hid (newQ_any z t 1 1 w)
  obtain ⟨c, hc⟩ : ∃ c, cfgP z t 1 1 = c := ⟨_, rfl⟩
  have HOK : Hid (Cfg.Ok c ∧ c.wt = 1) := Lib.hid (by rw [← hc]; exact ⟨cfgP_ok z t 1 1, by show min (max (1 : Int) 1) 1000 = 1; decide⟩)
  rw [hc] at HNW
  have HST := fun G cp b v W (h : SolQ W w.heap.size G cp b c 0 v []) => Lib.hid (startQ_any w.heap.size G cp b nmA 28 0 0 c 0 v [] W h dr_ask (by decide) (by decide) (by decide) (by decide) (by decide) (by decide) (by decide) (by decide))
  simp only [dr_new HOK.out.2 HOK.out.1.s1, List.length_nil, List.nil_append] at HST
  have HTK := fun G cp b (k : Nat) (g : Nat) (id d : Int) v W (h : SolQ W w.heap.size G cp b c 1 v [(g, drL c k id)]) (hk : (k : Int) < c.tr) (hk5 : k ≤ 10) (hd : (Lit.int .i64 d).wf = true) => Lib.hid (tickQ_any w.heap.size G cp b d ((k : Int) + 1) c 1 v [(g, drL c k id)] W h (fun p hp => by rw [List.mem_singleton.1 hp]; exact hk) hd (by omega) (by omega) (by simp))
  have HTN := fun G cp b (k : Nat) (d : Int) v W (h : SolQ W w.heap.size G cp b c 1 v []) (hk5 : k ≤ 10) (hd : (Lit.int .i64 d).wf = true) => Lib.hid (tickQ_any w.heap.size G cp b d ((k : Int) + 1) c 1 v [] W h (fun p hp => by cases hp) hd (by omega) (by omega) (by simp))
  have HOP := fun G cp b (n : Int) v W (h : SolQ W w.heap.size G cp b c n v []) => Lib.hid (openQ_any w.heap.size G cp b c n v [] W h (by simp))
  have HBD : Try.prog.built 53 [(0, .int .i64 z), (1, .int .i64 t), (2, .int .i64 1), (3, .int .i64 1)] = some #[.int .i64 z, .int .i64 t, .int .i64 1, .int .i64 1] := built_cf z t 1 1
  clear hI w0 w1 hc
  go_enter Try.func4, Try.ntmps4
  go_wp2_with (refine build_of rfl rfl HBD (by simp only [List.map_toArray, List.map_cons, List.map_nil]; rfl) ?_)
  refine HNW.out.mono ?_
  rintro e w1 ⟨G, cp, b, rfl, hq, hb⟩
  have HQ1 := Lib.hid hq
  have HB1 := Lib.hid hb
  have HCF := Lib.hid (config_any G cp c 0 _ w1 hq.so.cs)
  clear HNW hq hb HBD
  obtain ⟨sv, tr, wt, rm⟩ := c
  simp only [cfgL] at HCF
  go_wp2_with fail
  refine HCF.out.mono ?_
  rintro e w2 ⟨rfl, hb⟩
  have HQ2 := Lib.hid (HQ1.out.below hb)
  have HB2 := Lib.hid (HB1.out.trans (hb.mono HB1.out.size))
  clear hb HCF HQ1 HB1
  have HZC : Hid (CellsAt (w2.alloc (.cells #[.int .i64 0, .int .i64 0, .int .i64 0, .int .i64 0] 53)) w2.heap.size [.int .i64 0, .int .i64 0, .int .i64 0, .int .i64 0]) := Lib.hid (CellsAt.new w2 _ [.int .i64 0, .int .i64 0, .int .i64 0, .int .i64 0])
  have hb3 := (Below.refl w2.heap.size w2).alloc (Nat.le_refl _) (.cells #[.int .i64 0, .int .i64 0, .int .i64 0, .int .i64 0] 53)
  obtain ⟨W3, hW3⟩ : ∃ W3, w2.alloc (.cells #[.int .i64 0, .int .i64 0, .int .i64 0, .int .i64 0] 53) = W3 := ⟨_, rfl⟩
  rw [hW3] at HZC hb3
  have HB3 := Lib.hid hb3
  clear hb3
  go_upto_region 5 with (refine store_of HZC rfl cf_size _ _ rfl rfl rfl (vs := [.int .i64 sv, .int .i64 tr, .int .i64 wt, .int .i64 rm]) rfl rfl rfl (fun U HU HUC => ?_))
  try simp only [Act.put]
  have hU : Below w2.heap.size w2 U := by rw [HU.out]; exact below_cells (Nat.le_refl _) _ _ _ HB3.out
  have HQ3 := Lib.hid (HQ2.out.below hU)
  have HB4 := Lib.hid (HB2.out.trans (hU.mono HQ2.out.lt))
  have HNE : Hid (w2.heap.size ∉ fpO G (.slice none 0 0) []) := Lib.hid (fun e => by have := fpO_lt HQ2.out.so _ e; omega)
  obtain ⟨Ec, hE⟩ : ∃ Ec, w2.heap.size = Ec := ⟨_, rfl⟩
  rw [hE] at HUC HNE
  rw [hE]
  have HS := HST G cp b _ U HQ3.out
  clear HU HB3 HZC hW3 hE hU HQ2 HB2 HST
  unfold nmA at HS
  go_wp2_with fail
  refine HS.out.mono ?_
  rintro e w4 ⟨ev, v4, A4, rfl, hq, hb, hf, hd4⟩
  obtain ⟨rfl, g, rfl⟩ : ev = evS (drL ⟨sv, tr, wt, rm⟩ 0 0) ∧ ∃ g, A4 = [(g, drL ⟨sv, tr, wt, rm⟩ 0 0)] := by
    rcases hd4 with ⟨h, _⟩ | ⟨_, h, g, h2⟩
    · cases h
    · exact ⟨h, g, h2⟩
  have HC4 := Lib.hid (HUC.out.foot hf HNE.out)
  have HN4 := Lib.hid (hf.out HUC.out.lt HNE.out)
  have HZ3 := Lib.hid (zeroEv w4 56)
  have hb3 := (Below.refl w4.heap.size w4).alloc (Nat.le_refl _) (.cells #[.int .i64 0, .int .i64 0, .int .i64 0, .string ⟨#[]⟩, .int .i64 0, .int .i64 0, .slice none 0 0, .int .i64 0] 56)
  obtain ⟨W5, hW5⟩ : ∃ W5, w4.alloc (.cells #[.int .i64 0, .int .i64 0, .int .i64 0, .string ⟨#[]⟩, .int .i64 0, .int .i64 0, .slice none 0 0, .int .i64 0] 56) = W5 := ⟨_, rfl⟩
  rw [hW5] at HZ3 hb3
  have HB5 := Lib.hid hb3
  have HB6 := Lib.hid (HB4.out.trans hb)
  have HQ4 := Lib.hid hq
  clear hb3 hq hb hf hd4 HS HUC HNE HQ3 HB4
  unfold evV
  go_upto_region 6 with (refine store_of HZ3 rfl ev_size _ _ rfl rfl rfl (vs := evL (evS (drL ⟨sv, tr, wt, rm⟩ 0 0))) rfl rfl rfl (fun U2 HU HUC => ?_))
  try simp only [Act.put]
  have hU : Below w4.heap.size w4 U2 := by rw [HU.out]; exact below_cells (Nat.le_refl _) _ _ _ HB5.out
  have HQ5 := Lib.hid (HQ4.out.below hU)
  have HB7 := Lib.hid (HB6.out.trans (hU.mono HQ4.out.lt))
  have HC5 := Lib.hid (HC4.out.below hU)
  have e0 : U2.cell? ⟨w4.heap.size, 0, none⟩ = some (.int .i64 0) := HUC.out.cell 0 _ rfl
  have e4 : U2.cell? ⟨w4.heap.size, 4, none⟩ = some (.int .i64 28) := HUC.out.cell 4 _ rfl
  clear HU HUC HB5 HZ3 hW5 hU HQ4 HB6 HC4
  have HTR : Hid (1 ≤ tr ∧ tr ≤ 5 ∧ 1 ≤ sv) := Lib.hid ⟨HOK.out.1.t1, HOK.out.1.t2, HOK.out.1.s1⟩
  go_wp2_with fail
  clear e0 e4
  go_loopw [11, 12] (fun i _ wr => ∃ (k : Nat) (v : Value) (A : List PL), k ≤ N ∧ i = .int .i64 (k : Int) ∧ Hid (SolQ wr w.heap.size G cp b ⟨sv, tr, wt, rm⟩ 1 v A) ∧ Hid (Below w.heap.size w wr) ∧ Hid (CellsAt wr Ec [.int .i64 sv, .int .i64 tr, .int .i64 wt, .int .i64 rm]) ∧ Hid (Ec ∉ fpO G v A) ∧ Hid (((k : Int) < tr ∧ ∃ g id, A = [(g, drL ⟨sv, tr, wt, rm⟩ k id)]) ∨ (tr ≤ (k : Int) ∧ A = []))) (fun i _ _ => N - (intOf i).toNat)
  case atStart => exact ⟨0, v4, _, Nat.zero_le _, rfl, HQ5, HB7, HC5, HN4, Lib.hid (.inl ⟨by have := HTR.out; omega, g, 0, rfl⟩)⟩
  case round =>
    clear HQ5 HB7 HC5 HN4
    obtain ⟨k, v, A, hk, rfl, HQ, HB, HC, HNE, HA⟩ := hrel
    by_cases hkN : k < N
    · have hdl : decide ((k : Int) < (len : Int)) = true := decide_eq_true (by omega)
      have hdln : decide (k < len) = true := decide_eq_true (by omega)
      have hd5 : decide ((k : Int) < 5) = true := decide_eq_true (by omega)
      have hdn5 : decide (k < 5) = true := decide_eq_true (by omega)
      have hklen : (k : Int) < (len : Int) := by omega
      have hk0 : (0 : Int) ≤ (k : Int) := by omega
      have hwk : IntKind.i64.wrap ((k : Int) + 1) = (k : Int) + 1 := by rw [IntKind.wrap_i64]; omega
      obtain ⟨ad, rfl, hcw, hzw⟩ := HT.out k hkN
      have HCW : Hid (∀ W, Below w.heap.size w W → W.cell? (ad.add k) = some (.int .i64 (zs.getD k 0))) := Lib.hid (fun W hb => by rw [hb.cell (p := ad.add k) (World.block_lt_of_cell? w (ad.add k) hcw)]; exact hcw)
      have hcell := HCW.out wr HB.out
      have HZW := Lib.hid hzw
      clear hcw hzw
      generalize zs.getD k 0 = d at *
      have c1 := HC.out.cell 1 _ rfl
      rcases HA.out with ⟨hkt, g', id, rfl⟩ | ⟨hkt, rfl⟩
      · have HT1 := HTK G cp b k g' id d v wr HQ.out hkt (by omega) HZW.out
        have HDT := Lib.hid (dr_tick (c := ⟨sv, tr, wt, rm⟩) HOK.out.2 HOK.out.1.s1 k g' id d HZW.out)
        by_cases hke : (k : Int) + 1 = tr
        · rw [if_pos hke, if_pos hke] at HDT
          simp only [HDT.out.1, HDT.out.2] at HT1
          have hgt : decide (tr < (k : Int) + 1) = false := decide_eq_false (by omega)
          have heq : ((k : Int) + 1 == tr) = true := by rw [hke]; simp
          have HKE := Lib.hid hke
          clear hke
          go_wp2_with fail
          refine HT1.out.mono ?_
          rintro e w6 ⟨v6, ve, rfl, hr, hq, hb, hf, hk6⟩
          obtain ⟨g6, m6, rfl, hg6, hg6l, hrg⟩ := hr.one
          have e0 : w6.cell? ⟨g6, 0, none⟩ = some (.int .i64 2) := hrg 0 _ rfl
          have e7 : w6.cell? ⟨g6, 7, none⟩ = some (.int .i64 9) := hrg 7 _ rfl
          have HC6 := Lib.hid (HC.out.foot hf HNE.out)
          have c1b := HC6.out.cell 1 _ rfl
          have HNE6 := Lib.hid (hf.out HC.out.lt HNE.out)
          have HB8 := Lib.hid (HB.out.trans hb)
          have HO := HOP G cp b 1 v6 w6 hq
          have HQ6 := Lib.hid hq
          clear hr hq hb hf hk6 HT1 c1 hrg HC HNE HQ HB HDT HTK HTN
          go_wp2_with fail
          refine HO.out.mono ?_
          rintro e w7 ⟨vo, a7, m7, rfl, hvo, hb⟩
          subst hvo
          have HB9 := Lib.hid (HB8.out.trans (hb.mono HB8.out.size))
          have HQ7 := Lib.hid (HQ6.out.below hb)
          have HC7 := Lib.hid (HC6.out.below hb)
          clear hb HO HB8 HQ6 HC6 e0 e7 c1b
          simp only [List.length_nil]
          go_wp2_with fail
          go_roundw
          case rel => exact ⟨k + 1, v6, [], by omega, by go_num, HQ7, HB9, HC7, HNE6, Lib.hid (.inr ⟨by have := HKE.out; omega, rfl⟩)⟩
          case measure => simp [intOf]; omega
        · rw [if_neg hke, if_neg hke] at HDT
          simp only [HDT.out.1, HDT.out.2] at HT1
          have hgt : decide (tr < (k : Int) + 1) = false := decide_eq_false (by omega)
          have heq : ((k : Int) + 1 == tr) = false := by simp [hke]
          have HKE := Lib.hid hke
          clear hke
          go_wp2_with fail
          refine HT1.out.mono ?_
          rintro e w6 ⟨v6, ve, rfl, hr, hq, hb, hf, hk6⟩
          obtain ⟨g6, m6, rfl, hg6, hg6l, hrg⟩ := hr.one
          have HID := Lib.hid (dr_id d)
          have e0 : w6.cell? ⟨g6, 0, none⟩ = some (.int .i64 0) := hrg 0 _ rfl
          have e2 : w6.cell? ⟨g6, 2, none⟩ = some (.int .i64 (idP d)) := hrg 2 _ rfl
          have e3 : w6.cell? ⟨g6, 3, none⟩ = some (.string ⟨#[97]⟩) := hrg 3 _ rfl
          have e5 : w6.cell? ⟨g6, 5, none⟩ = some (.int .i64 (((k + 1 : Nat) : Int) % sv)) := hrg 5 _ rfl
          have HC6 := Lib.hid (HC.out.foot hf HNE.out)
          have HNE6 := Lib.hid (hf.out HC.out.lt HNE.out)
          have HB8 := Lib.hid (HB.out.trans hb)
          have HQ6 := Lib.hid hq
          have hdc := HCW.out w6 HB8.out
          have hc0 := HC6.out.cell 0 _ rfl
          have c1b := HC6.out.cell 1 _ rfl
          rw [HID.out] at e2
          have hsv := HTR.out.2.2
          have htm : ((k : Int) + 1).tmod sv = ((k + 1 : Nat) : Int) % sv := by
            rw [Int.tmod_eq_emod_of_nonneg (by omega)]
            congr 1
          have hN16 := aroundN_lt d 65536 (by decide)
          have HAR : Hid (∀ W, Calls Try.prog 11 #[.int .i64 d, .int .i64 65536] W fun e w' => e = .returned (.int .i64 ((aroundN d 65536 : Nat) : Int)) ∧ W = w') := Lib.hid (fun W => around_any d 65536 W HZW.out (by decide) (by decide))
          generalize ((k + 1 : Nat) : Int) % sv = sk at *
          generalize idP d = dd at *
          generalize aroundN d 65536 = an at *
          obtain ⟨S, hS⟩ : ∃ S : World → Prop, (fun V : World => Below w6.heap.size w6 V) = S := ⟨_, rfl⟩
          have HS0 : Hid (∀ V, S V → Below w6.heap.size w6 V) := Lib.hid (fun V h => by rw [← hS] at h; exact h)
          have HS1 : Hid (∀ V, Below w6.heap.size w6 V → S V) := Lib.hid (fun V h => by rw [← hS]; exact h)
          have E0 : Hid (∀ V, S V → V.cell? ⟨g6, 0, none⟩ = some (.int .i64 0)) := Lib.hid (fun V h => ((HS0.out V h).cell (p := ⟨g6, 0, none⟩) hg6l).trans e0)
          have E2 : Hid (∀ V, S V → V.cell? ⟨g6, 2, none⟩ = some (.int .i64 (an : Int))) := Lib.hid (fun V h => ((HS0.out V h).cell (p := ⟨g6, 2, none⟩) hg6l).trans e2)
          have E3 : Hid (∀ V, S V → V.cell? ⟨g6, 3, none⟩ = some (.string ⟨#[97]⟩)) := Lib.hid (fun V h => ((HS0.out V h).cell (p := ⟨g6, 3, none⟩) hg6l).trans e3)
          have E5 : Hid (∀ V, S V → V.cell? ⟨g6, 5, none⟩ = some (.int .i64 sk)) := Lib.hid (fun V h => ((HS0.out V h).cell (p := ⟨g6, 5, none⟩) hg6l).trans e5)
          have ED : Hid (∀ V, S V → V.cell? (ad.add k) = some (.int .i64 d)) := Lib.hid (fun V h => ((HS0.out V h).cell (World.block_lt_of_cell? w6 (ad.add k) hdc)).trans hdc)
          have EC : Hid (∀ V, S V → V.cell? ⟨Ec, 0, none⟩ = some (.int .i64 sv)) := Lib.hid (fun V h => ((HS0.out V h).cell (p := ⟨Ec, 0, none⟩) HC6.out.lt).trans hc0)
          have HARS : ∀ V, S V → Hid (Calls Try.prog 11 #[.int .i64 d, .int .i64 65536] V fun e w' => e = .returned (.int .i64 ((an : Nat) : Int)) ∧ S w') := fun V h => Lib.hid ((HAR.out V).mono (fun e w' hh => ⟨hh.1, by rw [← hh.2]; exact h⟩))
          have hSd : S w6.drew := HS1.out _ (Below.refl _ _).drew
          have hne1 : ((an : Int) != (an : Int)) = false := by simp
          have hne2 : (sk != sk) = false := by simp
          have hsv0 : ¬ (sv = 0) := by omega
          clear hr hq hb hf hk6 HT1 c1 hrg HC HNE HQ HB HDT HTK HTN hS hdc hc0 e2 e3 e5 HAR
          clear HCW hcell HZW HLV HOP HA HID e0 HT
          go_upto_region 19 with fail
          refine wp_region_noPanic ?_
          refine wp_region_held_drew (S := S) (by kernel_rfl) hSd (fun hHeld => ?_)
          refine wpAnyH_take (i := 0) (v := ?_) rfl (by kernel_rfl) (by kernel_rfl) (by kernel_rfl) (fun _ _ _ h => h) (Or.inl ⟨by rfl, ?_⟩) (by assumption) ?_
          rotate_left
          · (intro w hSw; go_simp; try (with_reducible rfl))
          try simp only [Act.put, List.getElem_toArray, List.getElem_cons_zero, List.setIfInBounds_toArray, List.set_cons_zero, List.set_cons_succ]
          refine wpAnyH_take (i := 1) (v := ?_) rfl (by kernel_rfl) (by kernel_rfl) (by kernel_rfl) (fun _ _ _ h => h) (Or.inl ⟨by rfl, ?_⟩) (by assumption) ?_
          rotate_left
          · (intro w hSw; go_simp; try (with_reducible rfl))
          try simp only [Act.put, List.getElem_toArray, List.getElem_cons_zero, List.getElem_cons_succ, List.setIfInBounds_toArray, List.set_cons_zero, List.set_cons_succ]
          refine wpAnyH_take (i := 2) (v := ?_) rfl (by kernel_rfl) (by kernel_rfl) (by kernel_rfl) (fun _ _ _ h => h) (Or.inl ⟨by rfl, ?_⟩) (by assumption) ?_
          rotate_left
          · (intro w hSw; go_simp; try (with_reducible rfl))
          try simp only [Act.put, List.getElem_toArray, List.getElem_cons_zero, List.getElem_cons_succ, List.setIfInBounds_toArray, List.set_cons_zero, List.set_cons_succ]
          refine wpAnyH_take (i := 3) (v := ?_) rfl (by kernel_rfl) (by kernel_rfl) (by kernel_rfl) (fun _ _ _ h => h) (Or.inl ⟨by rfl, ?_⟩) (by assumption) ?_
          rotate_left
          · (intro w hSw; have hc0 := E0.out w hSw; go_simp; try (with_reducible rfl))
          try simp only [Act.put, List.getElem_toArray, List.getElem_cons_zero, List.getElem_cons_succ, List.setIfInBounds_toArray, List.set_cons_zero, List.set_cons_succ]
          refine wpAnyH_take (i := 4) (v := ?_) rfl (by kernel_rfl) (by kernel_rfl) (by kernel_rfl) (fun _ _ _ h => h) (Or.inl ⟨by rfl, ?_⟩) (by assumption) ?_
          rotate_left
          · (intro w hSw; go_simp; try (with_reducible rfl))
          try simp only [Act.put, List.getElem_toArray, List.getElem_cons_zero, List.getElem_cons_succ, List.setIfInBounds_toArray, List.set_cons_zero, List.set_cons_succ]
          refine wpAnyH_take (i := 5) (v := ?_) rfl (by kernel_rfl) (by kernel_rfl) (by kernel_rfl) (fun _ _ _ h => h) (Or.inl ⟨by rfl, ?_⟩) (by assumption) ?_
          rotate_left
          · (intro w hSw; go_simp; try (with_reducible rfl))
          try simp only [Act.put, List.getElem_toArray, List.getElem_cons_zero, List.getElem_cons_succ, List.setIfInBounds_toArray, List.set_cons_zero, List.set_cons_succ]
          refine wpAnyH_take (i := 6) (v := ?_) rfl (by kernel_rfl) (by kernel_rfl) (by kernel_rfl) (fun _ _ _ h => h) (Or.inl ⟨by rfl, ?_⟩) (by assumption) ?_
          rotate_left
          · (intro w hSw; go_simp; try (with_reducible rfl))
          try simp only [Act.put, List.getElem_toArray, List.getElem_cons_zero, List.getElem_cons_succ, List.setIfInBounds_toArray, List.set_cons_zero, List.set_cons_succ]
          refine wpAnyH_take (i := 7) (v := ?_) rfl (by kernel_rfl) (by kernel_rfl) (by kernel_rfl) (fun _ _ _ h => h) (Or.inl ⟨by rfl, ?_⟩) (by assumption) ?_
          rotate_left
          · (intro w hSw; go_simp; try (with_reducible rfl))
          try simp only [Act.put, List.getElem_toArray, List.getElem_cons_zero, List.getElem_cons_succ, List.setIfInBounds_toArray, List.set_cons_zero, List.set_cons_succ]
          refine wpAnyH_take (i := 8) (v := ?_) rfl (by kernel_rfl) (by kernel_rfl) (by kernel_rfl) (fun _ _ _ h => h) (Or.inl ⟨by rfl, ?_⟩) (by assumption) ?_
          rotate_left
          · (intro w hSw; go_simp; try (with_reducible rfl))
          try simp only [Act.put, List.getElem_toArray, List.getElem_cons_zero, List.getElem_cons_succ, List.setIfInBounds_toArray, List.set_cons_zero, List.set_cons_succ]
          refine wpAnyH_take (i := 9) (v := ?_) rfl (by kernel_rfl) (by kernel_rfl) (by kernel_rfl) (fun _ _ _ h => h) (Or.inl ⟨by rfl, ?_⟩) (by assumption) ?_
          rotate_left
          · (intro w hSw; go_simp; try (with_reducible rfl))
          try simp only [Act.put, List.getElem_toArray, List.getElem_cons_zero, List.getElem_cons_succ, List.setIfInBounds_toArray, List.set_cons_zero, List.set_cons_succ]
          refine wpAnyH_take (i := 10) (v := ?_) rfl (by kernel_rfl) (by kernel_rfl) (by kernel_rfl) (fun _ _ _ h => h) (Or.inl ⟨by rfl, ?_⟩) (by assumption) ?_
          rotate_left
          · (intro w hSw; have hc0 := E2.out w hSw; go_simp; try (with_reducible rfl))
          try simp only [Act.put, List.getElem_toArray, List.getElem_cons_zero, List.getElem_cons_succ, List.setIfInBounds_toArray, List.set_cons_zero, List.set_cons_succ]
          refine wpAnyH_take (i := 11) (v := ?_) rfl (by kernel_rfl) (by kernel_rfl) (by kernel_rfl) (fun _ _ _ h => h) (Or.inl ⟨by rfl, ?_⟩) (by assumption) ?_
          rotate_left
          · (intro w hSw; go_simp; try (with_reducible rfl))
          try simp only [Act.put, List.getElem_toArray, List.getElem_cons_zero, List.getElem_cons_succ, List.setIfInBounds_toArray, List.set_cons_zero, List.set_cons_succ]
          refine wpAnyH_take (i := 12) (v := ?_) rfl (by kernel_rfl) (by kernel_rfl) (by kernel_rfl) (fun _ _ _ h => h) (Or.inl ⟨by rfl, ?_⟩) (by assumption) ?_
          rotate_left
          · (intro w hSw; go_simp; try (with_reducible rfl))
          try simp only [Act.put, List.getElem_toArray, List.getElem_cons_zero, List.getElem_cons_succ, List.setIfInBounds_toArray, List.set_cons_zero, List.set_cons_succ]
          refine wpAnyH_take (i := 13) (v := ?_) rfl (by kernel_rfl) (by kernel_rfl) (by kernel_rfl) (fun _ _ _ h => h) (Or.inl ⟨by rfl, ?_⟩) (by assumption) ?_
          rotate_left
          · (intro w hSw; go_simp; try (with_reducible rfl))
          try simp only [Act.put, List.getElem_toArray, List.getElem_cons_zero, List.getElem_cons_succ, List.setIfInBounds_toArray, List.set_cons_zero, List.set_cons_succ]
          refine wpAnyH_take (i := 14) (v := ?_) rfl (by kernel_rfl) (by kernel_rfl) (by kernel_rfl) (fun _ _ _ h => h) (Or.inl ⟨by rfl, ?_⟩) (by assumption) ?_
          rotate_left
          · (intro w hSw; have hc0 := ED.out w hSw; go_simp; try (with_reducible rfl))
          try simp only [Act.put, List.getElem_toArray, List.getElem_cons_zero, List.getElem_cons_succ, List.setIfInBounds_toArray, List.set_cons_zero, List.set_cons_succ]
          refine wpAnyH_ready (rs := [15]) (by kernel_rfl) (by simp) ?_
          refine AllReadyH.cons rfl (fun K hK => ?_) AllReadyH.nil
          go_simp
          refine (HARS _ (by assumption)).out.mono ?_
          rintro e wr15 ⟨rfl, hS15⟩
          go_wp2_with fail
          refine hK.out _ _ hS15 (fun hHeld => ?_)
          clear hK K
          try simp only [Act.put, List.getElem_toArray, List.getElem_cons_zero, List.getElem_cons_succ, List.setIfInBounds_toArray, List.set_cons_zero, List.set_cons_succ]
          refine wpAnyH_take (i := 16) (v := ?_) rfl (by kernel_rfl) (by kernel_rfl) (by kernel_rfl) (fun _ _ _ h => h) (Or.inl ⟨by rfl, ?_⟩) (by assumption) ?_
          rotate_left
          · (intro w hSw; go_simp; try (with_reducible rfl))
          try simp only [Act.put, List.getElem_toArray, List.getElem_cons_zero, List.getElem_cons_succ, List.setIfInBounds_toArray, List.set_cons_zero, List.set_cons_succ]
          refine wpAnyH_take (i := 17) (v := ?_) rfl (by kernel_rfl) (by kernel_rfl) (by kernel_rfl) (fun _ _ _ h => h) (Or.inl ⟨by rfl, ?_⟩) (by assumption) ?_
          rotate_left
          · (intro w hSw; go_simp; try (with_reducible rfl))
          try simp only [Act.put, List.getElem_toArray, List.getElem_cons_zero, List.getElem_cons_succ, List.setIfInBounds_toArray, List.set_cons_zero, List.set_cons_succ]
          refine wpAnyH_take (i := 18) (v := ?_) rfl (by kernel_rfl) (by kernel_rfl) (by kernel_rfl) (fun _ _ _ h => h) (Or.inl ⟨by rfl, ?_⟩) (by assumption) ?_
          rotate_left
          · (intro w hSw; go_simp; try (with_reducible rfl))
          try simp only [Act.put, List.getElem_toArray, List.getElem_cons_zero, List.getElem_cons_succ, List.setIfInBounds_toArray, List.set_cons_zero, List.set_cons_succ]
          refine wpAnyH_take (i := 19) (v := ?_) rfl (by kernel_rfl) (by kernel_rfl) (by kernel_rfl) (fun _ _ _ h => h) (Or.inl ⟨by rfl, ?_⟩) (by assumption) ?_
          rotate_left
          · (intro w hSw; go_simp; try (with_reducible rfl))
          try simp only [Act.put, List.getElem_toArray, List.getElem_cons_zero, List.getElem_cons_succ, List.setIfInBounds_toArray, List.set_cons_zero, List.set_cons_succ]
          refine wpAnyH_take (i := 20) (v := ?_) rfl (by kernel_rfl) (by kernel_rfl) (by kernel_rfl) (fun _ _ _ h => h) (Or.inl ⟨by rfl, ?_⟩) (by assumption) ?_
          rotate_left
          · (intro w hSw; go_simp; try (with_reducible rfl))
          try simp only [Act.put, List.getElem_toArray, List.getElem_cons_zero, List.getElem_cons_succ, List.setIfInBounds_toArray, List.set_cons_zero, List.set_cons_succ]
          refine wpAnyH_take (i := 21) (v := ?_) rfl (by kernel_rfl) (by kernel_rfl) (by kernel_rfl) (fun _ _ _ h => h) (Or.inl ⟨by rfl, ?_⟩) (by assumption) ?_
          rotate_left
          · (intro w hSw; go_simp; try (with_reducible rfl))
          try simp only [Act.put, List.getElem_toArray, List.getElem_cons_zero, List.getElem_cons_succ, List.setIfInBounds_toArray, List.set_cons_zero, List.set_cons_succ]
          refine wpAnyH_take (i := 22) (v := ?_) rfl (by kernel_rfl) (by kernel_rfl) (by kernel_rfl) (fun _ _ _ h => h) (Or.inl ⟨by rfl, ?_⟩) (by assumption) ?_
          rotate_left
          · (intro w hSw; go_simp; try (with_reducible rfl))
          try simp only [Act.put, List.getElem_toArray, List.getElem_cons_zero, List.getElem_cons_succ, List.setIfInBounds_toArray, List.set_cons_zero, List.set_cons_succ]
          refine wpAnyH_take (i := 23) (v := ?_) rfl (by kernel_rfl) (by kernel_rfl) (by kernel_rfl) (fun _ _ _ h => h) (Or.inl ⟨by rfl, ?_⟩) (by assumption) ?_
          rotate_left
          · (intro w hSw; have hc0 := E5.out w hSw; go_simp; try (with_reducible rfl))
          try simp only [Act.put, List.getElem_toArray, List.getElem_cons_zero, List.getElem_cons_succ, List.setIfInBounds_toArray, List.set_cons_zero, List.set_cons_succ]
          refine wpAnyH_take (i := 24) (v := ?_) rfl (by kernel_rfl) (by kernel_rfl) (by kernel_rfl) (fun _ _ _ h => h) (Or.inl ⟨by rfl, ?_⟩) (by assumption) ?_
          rotate_left
          · (intro w hSw; go_simp; try (with_reducible rfl))
          try simp only [Act.put, List.getElem_toArray, List.getElem_cons_zero, List.getElem_cons_succ, List.setIfInBounds_toArray, List.set_cons_zero, List.set_cons_succ]
          refine wpAnyH_take (i := 25) (v := ?_) rfl (by kernel_rfl) (by kernel_rfl) (by kernel_rfl) (fun _ _ _ h => h) (Or.inl ⟨by rfl, ?_⟩) (by assumption) ?_
          rotate_left
          · (intro w hSw; go_simp; try (with_reducible rfl))
          try simp only [Act.put, List.getElem_toArray, List.getElem_cons_zero, List.getElem_cons_succ, List.setIfInBounds_toArray, List.set_cons_zero, List.set_cons_succ]
          refine wpAnyH_take (i := 26) (v := ?_) rfl (by kernel_rfl) (by kernel_rfl) (by kernel_rfl) (fun _ _ _ h => h) (Or.inl ⟨by rfl, ?_⟩) (by assumption) ?_
          rotate_left
          · (intro w hSw; go_simp; try (with_reducible rfl))
          try simp only [Act.put, List.getElem_toArray, List.getElem_cons_zero, List.getElem_cons_succ, List.setIfInBounds_toArray, List.set_cons_zero, List.set_cons_succ]
          refine wpAnyH_take (i := 27) (v := ?_) rfl (by kernel_rfl) (by kernel_rfl) (by kernel_rfl) (fun _ _ _ h => h) (Or.inl ⟨by rfl, ?_⟩) (by assumption) ?_
          rotate_left
          · (intro w hSw; have hc0 := EC.out w hSw; go_simp; try (with_reducible rfl))
          try simp only [Act.put, List.getElem_toArray, List.getElem_cons_zero, List.getElem_cons_succ, List.setIfInBounds_toArray, List.set_cons_zero, List.set_cons_succ]
          refine wpAnyH_take (i := 28) (v := ?_) rfl (by kernel_rfl) (by kernel_rfl) (by kernel_rfl) (fun _ _ _ h => h) (Or.inl ⟨by rfl, ?_⟩) (by assumption) ?_
          rotate_left
          · (intro w hSw; go_simp; try (with_reducible rfl))
          try simp only [Act.put, List.getElem_toArray, List.getElem_cons_zero, List.getElem_cons_succ, List.setIfInBounds_toArray, List.set_cons_zero, List.set_cons_succ]
          refine wpAnyH_take (i := 29) (v := ?_) rfl (by kernel_rfl) (by kernel_rfl) (by kernel_rfl) (fun _ _ _ h => h) (Or.inl ⟨by rfl, ?_⟩) (by assumption) ?_
          rotate_left
          · (intro w hSw; go_simp; try (with_reducible rfl))
          try simp only [Act.put, List.getElem_toArray, List.getElem_cons_zero, List.getElem_cons_succ, List.setIfInBounds_toArray, List.set_cons_zero, List.set_cons_succ]
          refine wpAnyH_take (i := 30) (v := ?_) rfl (by kernel_rfl) (by kernel_rfl) (by kernel_rfl) (fun _ _ _ h => h) (Or.inl ⟨by rfl, ?_⟩) (by assumption) ?_
          rotate_left
          · (intro w hSw; go_simp; try (with_reducible rfl))
          try simp only [Act.put, List.getElem_toArray, List.getElem_cons_zero, List.getElem_cons_succ, List.setIfInBounds_toArray, List.set_cons_zero, List.set_cons_succ]
          refine wpAnyH_take (i := 31) (v := ?_) rfl (by kernel_rfl) (by kernel_rfl) (by kernel_rfl) (fun _ _ _ h => h) (Or.inl ⟨by rfl, ?_⟩) (by assumption) ?_
          rotate_left
          · (intro w hSw; go_simp; try (with_reducible rfl))
          try simp only [Act.put, List.getElem_toArray, List.getElem_cons_zero, List.getElem_cons_succ, List.setIfInBounds_toArray, List.set_cons_zero, List.set_cons_succ]
          refine wpAnyH_take (i := 32) (v := ?_) rfl (by kernel_rfl) (by kernel_rfl) (by kernel_rfl) (fun _ _ _ h => h) (Or.inl ⟨by rfl, ?_⟩) (by assumption) ?_
          rotate_left
          · (intro w hSw; go_simp; try (with_reducible rfl))
          try simp only [Act.put, List.getElem_toArray, List.getElem_cons_zero, List.getElem_cons_succ, List.setIfInBounds_toArray, List.set_cons_zero, List.set_cons_succ]
          refine wpAnyH_take (i := 33) (v := ?_) rfl (by kernel_rfl) (by kernel_rfl) (by kernel_rfl) (fun _ _ _ h => h) (Or.inl ⟨by rfl, ?_⟩) (by assumption) ?_
          rotate_left
          · (intro w hSw; go_simp; try (with_reducible rfl))
          try simp only [Act.put, List.getElem_toArray, List.getElem_cons_zero, List.getElem_cons_succ, List.setIfInBounds_toArray, List.set_cons_zero, List.set_cons_succ]
          refine wpAnyH_take (i := 34) (v := ?_) rfl (by kernel_rfl) (by kernel_rfl) (by kernel_rfl) (fun _ _ _ h => h) (Or.inl ⟨by rfl, ?_⟩) (by assumption) ?_
          rotate_left
          · (intro w hSw; go_simp; try (with_reducible rfl))
          try simp only [Act.put, List.getElem_toArray, List.getElem_cons_zero, List.getElem_cons_succ, List.setIfInBounds_toArray, List.set_cons_zero, List.set_cons_succ]
          refine wpAnyH_take (i := 35) (v := ?_) rfl (by kernel_rfl) (by kernel_rfl) (by kernel_rfl) (fun _ _ _ h => h) (Or.inl ⟨by rfl, ?_⟩) (by assumption) ?_
          rotate_left
          · (intro w hSw; go_simp; try (with_reducible rfl))
          try simp only [Act.put, List.getElem_toArray, List.getElem_cons_zero, List.getElem_cons_succ, List.setIfInBounds_toArray, List.set_cons_zero, List.set_cons_succ]
          refine wpAnyH_take (i := 36) (v := ?_) rfl (by kernel_rfl) (by kernel_rfl) (by kernel_rfl) (fun _ _ _ h => h) (Or.inl ⟨by rfl, ?_⟩) (by assumption) ?_
          rotate_left
          · (intro w hSw; have hc0 := E3.out w hSw; go_simp; try (with_reducible rfl))
          try simp only [Act.put, List.getElem_toArray, List.getElem_cons_zero, List.getElem_cons_succ, List.setIfInBounds_toArray, List.set_cons_zero, List.set_cons_succ]
          refine wpAnyH_take (i := 37) (v := ?_) rfl (by kernel_rfl) (by kernel_rfl) (by kernel_rfl) (fun _ _ _ h => h) (Or.inl ⟨by rfl, ?_⟩) (by assumption) ?_
          rotate_left
          · (intro w hSw; go_simp; try (with_reducible rfl))
          try simp only [Act.put, List.getElem_toArray, List.getElem_cons_zero, List.getElem_cons_succ, List.setIfInBounds_toArray, List.set_cons_zero, List.set_cons_succ]
          refine wpAnyH_take (i := 38) (v := ?_) rfl (by kernel_rfl) (by kernel_rfl) (by kernel_rfl) (fun _ _ _ h => h) (Or.inl ⟨by rfl, ?_⟩) (by assumption) ?_
          rotate_left
          · (intro w hSw; go_simp; try (with_reducible rfl))
          try simp only [Act.put, List.getElem_toArray, List.getElem_cons_zero, List.getElem_cons_succ, List.setIfInBounds_toArray, List.set_cons_zero, List.set_cons_succ]
          refine wpAnyH_done (by kernel_rfl) ?_ _
          refine NoPanic.normal ?_
          have hbl := HS0.out _ hS15
          have HQ7 := Lib.hid (HQ6.out.below hbl)
          have HB9 := Lib.hid (HB8.out.trans (hbl.mono HB8.out.size))
          have HC7 := Lib.hid (HC6.out.below hbl)
          clear E0 E2 E3 E5 ED EC HARS hHeld hSd hS15 hbl HS0 HS1 HQ6 HB8 HC6
          go_wp2_with fail
          go_roundw
          case rel => exact ⟨k + 1, v6, [(g', drL ⟨sv, tr, wt, rm⟩ (k + 1) dd)], by omega, by go_num, HQ7, HB9, HC7, HNE6, Lib.hid (.inl ⟨by have := HKE.out; omega, g', dd, rfl⟩)⟩
          case measure => simp [intOf]; omega
      · have HT1 := HTN G cp b k d v wr HQ.out (by omega) HZW.out
        have hgt : decide (tr < (k : Int) + 1) = true := decide_eq_true (by omega)
        go_wp2_with fail
        refine HT1.out.mono ?_
        rintro e w6 ⟨v6, ve, rfl, hr, hq, hb, hf, hk6⟩
        have hve : ve = .slice none 0 0 ∨ ∃ a m, ve = .slice a 0 m := by
          rcases hr.form with ⟨e1, _⟩ | ⟨g, cap, e1, _⟩
          · exact .inl e1
          · exact .inr ⟨_, cap, e1⟩
        obtain ⟨a6, m6, rfl⟩ : ∃ a m, ve = .slice a 0 m := by
          rcases hve with h | h
          · exact ⟨none, 0, h⟩
          · exact h
        have c1b := (HC.out.foot hf HNE.out).cell 1 _ rfl
        have HB8 := Lib.hid (HB.out.trans hb)
        clear hr hq hb hf hk6 HT1 c1 hve HC HNE HQ HB
        go_wp2_with fail
        refine (HLV w6).out.mono ?_
        rintro e w7 ⟨rfl, hb⟩
        have HB9 := Lib.hid (HB8.out.trans (hb.mono HB8.out.size))
        clear hb HB8 c1b
        go_wp2_with fail
        go_ret
        exact ⟨rfl, HB9.out⟩
    · obtain rfl : k = N := by omega
      clear HTK HTN HOP HQ HC HNE HA HT
      by_cases hkl : k < len
      · have hd5 : decide ((k : Int) < 5) = false := decide_eq_false (by omega)
        have hdn5 : decide (k < 5) = false := decide_eq_false (by omega)
        have hdl : decide ((k : Int) < (len : Int)) = true := decide_eq_true (by omega)
        have hdln : decide (k < len) = true := decide_eq_true hkl
        go_wp2_with fail
        refine (HLV wr).out.mono ?_
        rintro e w7 ⟨rfl, hb⟩
        have HB9 := Lib.hid (HB.out.trans (hb.mono HB.out.size))
        clear hb
        go_wp2_with fail
        go_ret
        exact ⟨rfl, HB9.out⟩
      · have hdl : decide ((k : Int) < (len : Int)) = false := decide_eq_false (by omega)
        have hdln : decide (k < len) = false := decide_eq_false hkl
        go_wp2_with fail
        refine (HLV wr).out.mono ?_
        rintro e w7 ⟨rfl, hb⟩
        have HB9 := Lib.hid (HB.out.trans (hb.mono HB.out.size))
        clear hb
        go_wp2_with fail
        go_ret
        exact ⟨rfl, HB9.out⟩

set_option maxRecDepth 100000 in
theorem lifted (os : Os) (started : os.Started) (H : Type) (enc : TypeId × Value → H) :
    ReturnsInHanded {} Try.checked os 4 .any (Rows.solveDrawsSpec.pre6 enc Try.prog Try.f4 Rows.solveDrawsRow.domain false) (Rows.solveDrawsSpec.post enc Try.prog Try.f4 false true false false) := by
  refine returnsInHanded_of_change (C := Try.checked) own started (by kernel_rfl) Try.func4
    (ChangeSpec.witness6 (enc := enc) (C := Try.checked) false ⟨#[], #[.slice none 0 0, .int .i64 0, .int .i64 0], []⟩ 8 (by kernel_rfl) (by kernel_rfl) (by kernel_rfl) (by kernel_rfl)) ?_
  intro W base args ds gs before hval0 hW hcnd _
  have hval : ∀ (j : Nat) t v, Try.f4.params[j]? = some t → args[j]? = some v → Value.okWide Try.prog W .any base t v := hval0
  have hW' := hW
  obtain ⟨p, q, hA0, hV, rfl, hfz, hnd⟩ := hW
  have hA : DataW.TrodAll enc Try.prog W 0 (fun _ => true) true Try.f4.params.toList args.toList ds p := hA0
  rw [Try.params4] at hA hval
  obtain ⟨v0, vs0, d0, ds0, p0, q0, hargs, rfl, rfl, h0, r0⟩ := trodAll_cons hA
  obtain ⟨v1, vs1, d1, ds1, p1, q1, rfl, rfl, rfl, h1, r1⟩ := trodAll_cons r0
  obtain ⟨v2, vs2, d2, ds2, p2, q2, rfl, rfl, rfl, h2, r2⟩ := trodAll_cons r1
  obtain ⟨rfl, rfl, rfl⟩ := trodAll_nil r2
  obtain rfl : args = #[v0, v1, v2] := by cases args; simp_all
  obtain ⟨rfl, rfl⟩ := trodVars_none hV
  obtain ⟨a0, len0, cap0, rfl⟩ := okWide_slice Try.underlying49 (hval 0 49 v0 rfl rfl)
  have k0 := h0
  have lt0 : ∀ x ∈ p0, x.block < W.heap.size := by obtain ⟨m, hm⟩ := k0; exact DataW.trod_lt m _ _ _ hm
  obtain ⟨z0, w0⟩ : ∃ zs, IsRow .i64 W a0 len0 cap0 zs := by
    obtain ⟨fuel, hf⟩ := h0
    rcases open_ints Try.underlying49 Try.underlying3 (by kernel_rfl) hf with ⟨hcs, _⟩ | ⟨x, l, c, zs, hcs, _, hl, hm, hz, _, hcell, hwz⟩
    · simp [Value.cells] at hcs
      obtain ⟨rfl, rfl, rfl⟩ := hcs
      exact ⟨[], .inl ⟨rfl, rfl, rfl, rfl⟩⟩
    · simp [Value.cells] at hcs
      obtain ⟨rfl, rfl, rfl⟩ := hcs
      exact ⟨zs, .inr ⟨_, rfl, hl, hm, by simpa using hz, hcell, hwz⟩⟩
  obtain ⟨a1, rfl, rfl, rfl, w1⟩ := open_int Try.underlying3 (hval 1 3 v1 rfl rfl) h1
  obtain ⟨a2, rfl, rfl, rfl, w2⟩ := open_int Try.underlying3 (hval 2 3 v2 rfl rfl) h2
  clear hA0 hval0
  refine (walk a0 len0 cap0 z0 a1 a2 W w0 w1 w2).mono fun e W' ⟨he, bel⟩ => ?_
  subst he
  exact ⟨_, rfl, _, _, _, [], _, [], hW', trodAll_mk1 (shut_bool Try.underlying4 _), (trodAll_cons_mk (Below.trod laidOut (by kernel_rfl) (of_decide_eq_true (by kernel_rfl)) k0 bel lt0) (trodAll_cons_mk (shut_int Try.underlying3 w1) (trodAll_cons_mk (shut_int Try.underlying3 w2) trodAll_mk0))), rfl, bel.frame _, fun h => by cases h⟩

theorem over : Rows.solveDrawsRow.holds Try.pinned (OpenSpec.ofChange Rows.solveDrawsSpec) :=
  OpenClaim.holds_of_wide 4 Try.f4 rfl rfl rfl rfl rfl rfl rfl ⟨rfl, rfl, rfl, rfl, rfl⟩ rfl rfl rfl rfl rfl (by kernel_rfl) Try.func4 (by kernel_rfl)
    (of_decide_eq_true (by kernel_rfl)) (by unfold Func.isWrapper; first | (rw [if_pos (by decide +kernel)]; kernel_rfl) | (rw [if_neg (by decide +kernel)]; exact ⟨rfl, rfl⟩))
    (fun os started H enc _ => lifted os started H enc)


theorem proved : Rows.SolveDrawsSaid := over
#print axioms proved
end Go.Proofs.Ytedmkdjijhflnaa.solveDraws

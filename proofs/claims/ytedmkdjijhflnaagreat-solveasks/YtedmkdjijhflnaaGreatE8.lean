/- Texts that belong together, one behind the other: RdRow, RdRecs, Numbers, RefNums, Reads, Strict, RefStrict, RefSix, RefSixParse, RefAddrOf, RefAddrMap, RefAddrGood, RefAddrCompare, AddrCompare, AddrGood, RdGood, RdMsg, RdRead, RangeKeep. -/
import Derived.Test.YtedmkdjijhflnaaGreatE7
import Derived.Deep.CutRange
import Derived.OpenShut
import Derived.Lib.ItoaLen
import Derived.Deep.RegionWith
import Derived.Deep.Cut
import Derived.Lib.BytesEntry
import Derived.Lib.Bytealg
import Derived.Deep.QuietTactic
import Derived.BigQuiet
set_option linter.unusedVariables false
set_option linter.unusedSimpArgs false
set_option maxRecDepth 20000
namespace Go.Proofs.YtedmkdjijhflnaaGreat
open Go.RowKit

theorem numberS_2 {w : World} {G : Nat} {ad : Option Addr} {c : Nat} {bs : List UInt8} {o : Option Nat} (h : RdS w G ad c bs o) (hbl : bs.length ≤ 100000) :
    Calls Tryz.prog 106 #[.pointer (some ⟨G, 0, none⟩), .int .i64 2] w fun e' w' => ∃ v : Nat, e' = .returned (.int .i64 (v : Int)) ∧ v ≤ 65535 ∧ RdS w' G ad c bs ((nuO bs o 2).map Prod.snd) ∧ (∀ p, nuO bs o 2 = some p → v = p.1) ∧ Foot [G] [G] w w' := by
  refine (numberS_any h 2 (by decide) hbl).mono ?_
  rintro e w' ⟨v, h1, h2, h3⟩
  exact ⟨v, h1, by have : v < 65536 := h2; omega, h3⟩
theorem numberS_4 {w : World} {G : Nat} {ad : Option Addr} {c : Nat} {bs : List UInt8} {o : Option Nat} (h : RdS w G ad c bs o) (hbl : bs.length ≤ 100000) :
    Calls Tryz.prog 106 #[.pointer (some ⟨G, 0, none⟩), .int .i64 4] w fun e' w' => ∃ v : Nat, e' = .returned (.int .i64 (v : Int)) ∧ v ≤ 4294967295 ∧ RdS w' G ad c bs ((nuO bs o 4).map Prod.snd) ∧ (∀ p, nuO bs o 4 = some p → v = p.1) ∧ Foot [G] [G] w w' := by
  refine (numberS_any h 4 (by decide) hbl).mono ?_
  rintro e w' ⟨v, h1, h2, h3⟩
  exact ⟨v, h1, Nat.le_of_lt_succ h2, h3⟩
structure RSt (w : World) (G : Nat) (ad : Option Addr) (c : Nat) (bs : List UInt8) (t : TypeId) (z : Nat) (v : Value) (n : Nat) (xs : List Value) (o : Option Nat) (wr : World) : Prop where
  row : wr.ownsRow w.heap.size t z v n xs
  st : RdS wr G ad c bs o
  ft : Foot [G] [G] w wr
section
variable {w wr w' : World} {G : Nat} {ad : Option Addr} {c : Nat} {bs : List UInt8} {t : TypeId} {z : Nat} {v v' : Value} {n n' : Nat} {xs xs' : List Value} {o o' : Option Nat}
theorem RSt.call (h : RSt w G ad c bs t z v n xs o wr) (hG : G < w.heap.size) (hs : RdS w' G ad c bs o') (hf : Foot [G] [G] wr w') : RSt w G ad c bs t z v n xs o' w' :=
  ⟨own_kept h.row (fun g hg => hf.keep g (h.row.lt g hg).2 (fun e => by have := (h.row.lt g hg).1; have := List.mem_singleton.1 e; omega)), hs, h.ft.trans hf⟩
theorem RSt.below (h : RSt w G ad c bs t z v n xs o wr) (hb : Below wr.heap.size wr w') : RSt w G ad c bs t z v n xs o w' :=
  ⟨own_below8 h.row hb, h.st.below hb, h.ft.trans (Foot.ofBelow _ hb)⟩
theorem RSt.call2 (h : RSt w G ad c bs t z v n xs o wr) (hG : G < w.heap.size) {P : Nat} (hP : w.heap.size ≤ P) (hv : v.ownBlock ≠ some P) (hs : RdS w' G ad c bs o') (hf : Foot [G, P] [G, P] wr w') : RSt w G ad c bs t z v n xs o' w' :=
  ⟨own_kept h.row (fun g hg => hf.keep g (h.row.lt g hg).2 (fun e => by
    have := (h.row.lt g hg).1
    simp only [List.mem_cons, List.not_mem_nil, or_false] at e
    rcases e with e | e
    · omega
    · exact hv (by rw [hg, e]))), hs, ⟨hf.os.trans h.ft.os, hf.tape.trans h.ft.tape, hf.output.trans h.ft.output, Nat.le_trans h.ft.size hf.size, fun k hk hn => (hf.keep k (Nat.lt_of_lt_of_le hk h.ft.size) (fun e => by
    simp only [List.mem_cons, List.not_mem_nil, or_false] at e
    rcases e with e | e
    · exact hn (by rw [e]; exact List.mem_singleton.2 rfl)
    · omega)).trans (h.ft.keep k hk hn), fun k hk => .inl hk⟩⟩
theorem RSt.grown (h : RSt w G ad c bs t z v n xs o wr) (hG : G < w.heap.size) (had : ∀ x, ad = some x → bs.length ≠ 0 → x.block < w.heap.size) (hr : w'.ownsRow w.heap.size t z v' n' xs') (hg : wr.grownBy w' v.ownBlock) : RSt w G ad c bs t z v' n' xs' o w' := by
  have hb : ∀ k, k < w.heap.size → some k ≠ v.ownBlock := fun k hk e => by have := (h.row.lt k e.symm).1; omega
  have hf : Foot v.ownBlock.toList v.ownBlock.toList wr w' := ⟨hg.os, hg.tape, hg.output, hg.size, fun k hk hn => hg.block k hk (fun e => hn (by rw [← e]; simp)), fun k hk => .inl hk⟩
  have hm : ∀ k, k < w.heap.size → k ∉ v.ownBlock.toList := fun k hk e => hb k hk (Option.mem_def.1 (Option.mem_toList.1 e)).symm
  refine ⟨hr, h.st.keep hf (hm G hG) (fun x hx hz => ⟨Nat.lt_of_lt_of_le (had x hx hz) h.ft.size, hm _ (had x hx hz)⟩), ⟨hg.os.trans h.ft.os, hg.tape.trans h.ft.tape, hg.output.trans h.ft.output, Nat.le_trans h.ft.size hg.size, fun k hk hn => (hg.block k (Nat.lt_of_lt_of_le hk h.ft.size) (hb k hk)).trans (h.ft.keep k hk hn), fun k hk => .inl hk⟩⟩
end
set_option maxRecDepth 100000 in
set_option maxHeartbeats 4000000 in
theorem asked_any9 {w : World} {G : Nat} {ad : Option Addr} {c : Nat} {bs : List UInt8} {o : Option Nat} (h : RdS w G ad c bs o) (N : Nat) (hN : N ≤ 65535) (hbl : bs.length ≤ 100000) (had : ∀ x, ad = some x → bs.length ≠ 0 → x.block < w.heap.size) :
    Calls Tryz.prog 108 #[.pointer (some ⟨G, 0, none⟩), .int .i64 (N : Int)] w fun e' w' => ∃ v D, e' = .returned v ∧ RowQ w' w.heap.size v D ∧ RdS w' G ad c bs ((sqO (quO bs) N o).map Prod.snd) ∧ (∀ p, sqO (quO bs) N o = some p → D = p.1) ∧ D.length ≤ N ∧ Foot [G] [G] w w' := by
  have hG : G < w.heap.size := by
    obtain ⟨a, e, h1, _⟩ := h.any
    exact h1.cells.lt
  have HG := Lib.hid hG
  have HAD := Lib.hid had
  have HS0 : Hid (RSt w G ad c bs 139 3 (.slice none 0 0) ([] : List Qu).length (flatQ []) o w) := Lib.hid ⟨RowQ.nil _ _, h, Foot.ofBelow _ (Below.refl _ _)⟩
  have HI0 := Lib.hid (SqI.start (quO bs) N o)
  clear h hG had
  go_enter Tryz.func108, Tryz.ntmps108
  go_wp2_with fail
  go_loopw [5, 6] (fun s5 s6 wr => ∃ (k : Nat) (D : List Qu) (v : Value) (o2 : Option Nat), v = s5 ∧ s6 = .int .i64 (k : Int) ∧ k ≤ N ∧ D.length ≤ k ∧ Hid (RSt w G ad c bs 139 3 v D.length (flatQ D) o2 wr) ∧ Hid (SqI (quO bs) N o k o2 D)) (fun _ i _ => N - (intOf i).toNat)
  case atStart => exact ⟨0, [], _, _, rfl, rfl, Nat.zero_le _, Nat.le_refl _, HS0, HI0⟩
  case round =>
    clear HS0 HI0
    obtain ⟨k, D, v, o2, rfl, rfl, hk, hDk, HS, HI⟩ := hrel
    by_cases hkN : k < N
    · have hd : decide ((k : Int) < (N : Int)) = true := decide_eq_true (by omega)
      have hdn : decide (k < N) = true := decide_eq_true hkN
      obtain ⟨a, e, hra, hae⟩ := HS.out.st.any
      have x2 := hra.cells.cell 2 _ rfl
      clear hra
      rcases hae with ⟨ho, rfl⟩ | ⟨ho, he⟩
      · have hz : ((0 : Int) == 0) = true := rfl
        clear ho
        go_wp2_with fail
        refine (nameS_any HS.out.st hbl).mono ?_
        rintro e' w1 ⟨nm, rfl, hnm, hs, hp, hf⟩
        have HS1 := Lib.hid (HS.out.call HG.out hs hf)
        have HP1 := Lib.hid hp
        have hnm2 : nm.size ≤ 9223372036854775807 := by omega
        clear hs hp hf HS x2
        go_wp2_with fail
        refine (numberS_2 HS1.out.st hbl).mono ?_
        rintro e' w2 ⟨ty, rfl, hty, hs, hp, hf⟩
        have HS2 := Lib.hid (HS1.out.call HG.out hs hf)
        have HP2 := Lib.hid hp
        clear hs hp hf HS1
        go_wp2_with fail
        refine (numberS_2 HS2.out.st hbl).mono ?_
        rintro e' w3 ⟨cl, rfl, hcl, hs, hp, hf⟩
        have HS3 := Lib.hid (HS2.out.call HG.out hs hf)
        have HP3 := Lib.hid hp
        clear hs hp hf HS2
        have HQC := Lib.hid (qu_chain HP1.out HP2.out HP3.out)
        have HI3 := Lib.hid (HI.out.next hkN rfl HQC.out.2)
        rw [HQC.out.1] at HI3
        have HLE : Hid (D.length + [(⟨nm, (ty : Int), (cl : Int)⟩ : Qu)].length ≤ 100000) := Lib.hid (by simp only [List.length_cons, List.length_nil]; omega)
        clear HP1 HP2 HP3 HI HQC
        generalize (nuO bs ((nuO bs ((naO bs o2).map Prod.snd) 2).map Prod.snd) 2).map Prod.snd = o3 at *
        go_wp2_with (first | refine build_qu3 rfl _ _ _ rfl rfl rfl rfl ?_ | (refine build_quS rfl _ rfl rfl (fun W5 HW5 => ?_); have hb5 : Below w3.heap.size w3 W5 := (by rw [HW5.out]; exact (Below.refl _ _).alloc (Nat.le_refl _) _); have HS5 := Lib.hid (HS3.out.below hb5); have HE := Lib.hid (show RowQ W5 w.heap.size v D from HS5.out.row); have HRG : Hid (W5.rangeAt w3.heap.size 0 (flatQ [⟨nm, (ty : Int), (cl : Int)⟩])) := Lib.hid (by rw [HW5.out]; have := built_new (w := w3) (cs := quL ⟨nm, (ty : Int), (cl : Int)⟩) 139; simpa [flatQ] using this); have HBS : Hid (w.heap.size ≤ W5.heap.size) := Lib.hid HS5.out.ft.size; clear hb5 HW5 HS3) | (refine append_qus HE _ _ rfl rfl rfl [⟨nm, (ty : Int), (cl : Int)⟩] rfl (Lib.hid rfl) HRG HLE HBS (fun v6 w6 HO6 HG6 HF6 => ?_); clear HE HRG))
        have HS6 := Lib.hid (HS5.out.grown HG.out HAD.out HO6.out HG6.out)
        go_roundw
        case rel => exact ⟨k + 1, _, v6, o3, rfl, by go_num, by omega, by rw [List.length_append]; simp only [List.length_cons, List.length_nil]; omega, HS6, HI3⟩
        case measure => simp [intOf]; omega
      · have hz : (e == 0) = false := by simpa using he
        subst ho
        have HN := Lib.hid (SqI.stop rfl HI.out)
        go_wp2_with fail
        go_ret
        refine ⟨v, D, rfl, HS.out.row, ?_, fun p hp => ?_, by omega, HS.out.ft⟩
        · rw [HN.out]; exact HS.out.st
        · rw [HN.out] at hp; cases hp
    · obtain rfl : N = k := by omega
      have hd : decide ((N : Int) < (N : Int)) = false := by simp
      have HN := Lib.hid HI.out.done
      go_wp2_with fail
      go_ret
      exact ⟨v, D, rfl, HS.out.row, by rw [HN.out.1]; exact HS.out.st, HN.out.2, hDk, HS.out.ft⟩
end Go.Proofs.YtedmkdjijhflnaaGreat
namespace Go.Proofs.YtedmkdjijhflnaaGreat
open Go.RowKit

theorem Off6.of {G M R B4 F4 B16 F16 : Nat} (h : M ≠ G ∧ R ≠ G ∧ B4 ≠ G ∧ F4 ≠ G ∧ B16 ≠ G ∧ F16 ≠ G) : ∀ k ∈ [G], k ≠ M ∧ k ≠ R ∧ k ≠ B4 ∧ k ≠ F4 ∧ k ≠ B16 ∧ k ≠ F16 := fun k hk => by
  rw [List.mem_singleton.1 hk]
  exact ⟨fun e => h.1 e.symm, fun e => h.2.1 e.symm, fun e => h.2.2.1 e.symm, fun e => h.2.2.2.1 e.symm, fun e => h.2.2.2.2.1 e.symm, fun e => h.2.2.2.2.2 e.symm⟩
set_option maxRecDepth 100000 in
set_option maxHeartbeats 8000000 in
theorem records_any9 {w : World} {G : Nat} {ad : Option Addr} {c : Nat} {bs : List UInt8} {o : Option Nat} (h : RdS w G ad c bs o) (N : Nat) (hN : N ≤ 65535) (hbl : bs.length ≤ 100000) (had : ∀ x, ad = some x → bs.length ≠ 0 → x.block < w.heap.size)
    {M R B4 F4 B16 F16 : Nat} (hW : WaysAt w G M R B4 F4 B16 F16) (hne : M ≠ G ∧ R ≠ G ∧ B4 ≠ G ∧ F4 ≠ G ∧ B16 ≠ G ∧ F16 ≠ G) :
    Calls Tryz.prog 109 #[.pointer (some ⟨G, 0, none⟩), .int .i64 (N : Int), .map (some M)] w fun e' w' => ∃ v D, e' = .returned v ∧ RowR w' w.heap.size v D ∧ RdS w' G ad c bs ((sqO (reO bs) N o).map Prod.snd) ∧ (∀ p, sqO (reO bs) N o = some p → D = p.1) ∧ D.length ≤ N ∧ Foot [G] [G] w w' := by
  have hG : G < w.heap.size := by
    obtain ⟨a, e, h1, _⟩ := h.any
    exact h1.cells.lt
  have HG := Lib.hid hG
  have HAD := Lib.hid had
  have HWA := fun V (hf : Foot [G] [G] w V) => Lib.hid (hW.keep hf (Off6.of hne))
  have HLT : Hid (R < w.heap.size ∧ B4 < w.heap.size ∧ F4 < w.heap.size ∧ B16 < w.heap.size ∧ F16 < w.heap.size) := Lib.hid ⟨hW.r.2, hW.b4.2, hW.f4.2, hW.b16.2, hW.f16.2⟩
  have HNE := Lib.hid hne
  have HS0 : Hid (RSt w G ad c bs 71 23 (.slice none 0 0) ([] : List Rec).length (flatR []) o w) := Lib.hid ⟨(RowR.nil w w.heap.size).1, h, Foot.ofBelow _ (Below.refl _ _)⟩
  have HI0 := Lib.hid (SqI.start (reO bs) N o)
  have hre : reO bs none = none := rfl
  have HRE := Lib.hid hre
  clear h hG had hW hne hre
  go_enter Tryz.func109, Tryz.ntmps109
  go_wp2_with fail
  go_loopw [7, 8] (fun s7 s8 wr => ∃ (k : Nat) (D : List Rec) (v : Value) (o2 : Option Nat), v = s7 ∧ s8 = .int .i64 (k : Int) ∧ k ≤ N ∧ D.length ≤ k ∧ Hid (All16 D) ∧ Hid (RSt w G ad c bs 71 23 v D.length (flatR D) o2 wr) ∧ Hid (SqI (reO bs) N o k o2 D)) (fun _ i _ => N - (intOf i).toNat)
  case atStart => exact ⟨0, [], _, _, rfl, rfl, Nat.zero_le _, Nat.le_refl _, Lib.hid (fun r hr => by cases hr), HS0, HI0⟩
  case round =>
    clear HS0 HI0
    obtain ⟨k, D, v, o2, rfl, rfl, hk, hDk, HAL, HS, HI⟩ := hrel
    by_cases hkN : k < N
    · have hd : decide ((k : Int) < (N : Int)) = true := decide_eq_true (by omega)
      have hdn : decide (k < N) = true := decide_eq_true hkN
      obtain ⟨a, e, hra, hae⟩ := HS.out.st.any
      have x2 := hra.cells.cell 2 _ rfl
      clear hra
      rcases hae with ⟨ho, rfl⟩ | ⟨ho, he⟩
      · have hz : ((0 : Int) == 0) = true := rfl
        clear ho
        go_wp2_with fail
        refine (nameS_any HS.out.st hbl).mono ?_
        rintro e' w1 ⟨nm, rfl, hnm, hs, hp, hf⟩
        have HS1 := Lib.hid (HS.out.call HG.out hs hf)
        have HP1 := Lib.hid hp
        have hnm2 : nm.size ≤ 9223372036854775807 := by omega
        clear hs hp hf HS x2
        go_wp2_with fail
        refine (numberS_2 HS1.out.st hbl).mono ?_
        rintro e' w2 ⟨ty, rfl, hty, hs, hp, hf⟩
        have HS2 := Lib.hid (HS1.out.call HG.out hs hf)
        have HP2 := Lib.hid hp
        clear hs hp hf HS1
        go_wp2_with fail
        refine (numberS_2 HS2.out.st hbl).mono ?_
        rintro e' w3 ⟨cl, rfl, hcl, hs, hp, hf⟩
        have HS3 := Lib.hid (HS2.out.call HG.out hs hf)
        have HP3 := Lib.hid hp
        clear hs hp hf HS2
        go_wp2_with fail
        refine (numberS_4 HS3.out.st hbl).mono ?_
        rintro e' w4 ⟨tl, rfl, htl, hs, hp, hf⟩
        have HS4 := Lib.hid (HS3.out.call HG.out hs hf)
        have HP4 := Lib.hid hp
        clear hs hp hf HS3
        obtain ⟨o5, ho5⟩ : ∃ o5, (nuO bs ((nuO bs ((nuO bs ((naO bs o2).map Prod.snd) 2).map Prod.snd) 2).map Prod.snd) 4).map Prod.snd = o5 := ⟨_, rfl⟩
        have HCH : Hid (∀ n, (∀ p, nuO bs o5 2 = some p → n = p.1) → daO bs ((nuO bs o5 2).map Prod.snd) (hdO nm ty cl tl) n = reO bs o2) := Lib.hid (fun n hn => re_chain rfl rfl rfl ho5.symm rfl HP1.out HP2.out HP3.out HP4.out hn)
        rw [ho5] at HS4
        clear ho5 HP1 HP2 HP3 HP4
        have HZZ := Lib.hid (rec_zeroed w4)
        go_upto_region 6 with (first | refine build_rec4 rfl _ _ _ _ rfl rfl rfl rfl rfl ?_ | (have HZ2 := HZZ; refine store_rec HZ2 _ _ (Lib.hid rfl) rfl rfl rfl rfl (fun V HV HRV => ?_); clear HZZ))
        have hbV : Below w4.heap.size w4 V := by rw [HV.out]; exact below_cells (Nat.le_refl _) _ _ _ ((Below.refl _ _).alloc (Nat.le_refl _) _)
        obtain ⟨P, hP⟩ : ∃ P, w4.heap.size = P := ⟨_, rfl⟩
        have HPP : Hid (w.heap.size ≤ P ∧ v.ownBlock ≠ some P) := Lib.hid ⟨by rw [← hP]; exact HS4.out.ft.size, fun e => by have := (HS4.out.row.lt _ e).2; omega⟩
        have HS5 := Lib.hid (HS4.out.below hbV)
        rw [hP] at HRV ⊢
        have HR5 : Hid (RecAt V P ⟨nm, (ty : Int), (cl : Int), (tl : Int), 0, List.replicate 16 0, ⟨#[]⟩, ⟨#[]⟩⟩) := HRV
        clear hbV HV HZ2 HS4 hP HRV
        have x3 := HR5.out.cell 3 _ rfl
        go_upto_if 35 with fail
        go_cut [] from 12 to 55 (fun wx => Hid (RecAt wx P (hdO nm ty cl tl)) ∧ Hid (RSt w G ad c bs 71 23 v D.length (flatR D) o5 wx))
        case first =>
          by_cases ht : 2147483647 < tl
          · have hdt : decide ((2147483647 : Int) < (tl : Int)) = true := decide_eq_true (by omega)
            have hdtn : decide (2147483647 < tl) = true := decide_eq_true ht
            try rw [hdt]
            try rw [hdtn]
            have f3 := HR5.out.live 3 (by decide)
            have HR6 : Hid (RecAt (V.setCell ⟨P, 3, none⟩ (.int .i64 0)) P (hdO nm ty cl tl)) := Lib.hid (by
              have := HR5.out.set 3 (.int .i64 0) ⟨nm, (ty : Int), (cl : Int), 0, 0, List.replicate 16 0, ⟨#[]⟩, ⟨#[]⟩⟩ rfl (by decide) rfl
              unfold hdO ttlO
              rw [if_pos ht]
              exact this)
            have HS6 := Lib.hid (HS5.out.call2 HG.out HPP.out.1 HPP.out.2 (HS5.out.st.keep (Foot.ofSet V P 3 (.int .i64 0)) (by simp only [List.mem_singleton]; have h1 := HPP.out.1; have h2 := HG.out; omega) (fun x hx hz => ⟨Nat.lt_of_lt_of_le (HAD.out x hx hz) HS5.out.ft.size, by have h1 := HAD.out x hx hz; have h2 := HPP.out.1; simp only [List.mem_singleton]; omega⟩)) (Foot.twoP (Foot.ofSet V P 3 (.int .i64 0))))
            clear ht
            go_wp2_with fail
            go_meet
            case rel => exact ⟨HR6, HS6⟩
          · have hdt : decide ((2147483647 : Int) < (tl : Int)) = false := decide_eq_false (by omega)
            have hdtn : decide (2147483647 < tl) = false := decide_eq_false ht
            try rw [hdt]
            try rw [hdtn]
            have HR6 : Hid (RecAt V P (hdO nm ty cl tl)) := Lib.hid (by
              unfold hdO ttlO
              rw [if_neg ht]
              exact HR5.out)
            clear ht
            go_wp2_with fail
            go_meet
            case rel => exact ⟨HR6, HS5⟩
        case rest =>
          clear HR5 HS5 x3
          obtain ⟨HR6, HS6⟩ := hcut
          have x1 := HR6.out.cell 1 (.int .i64 (ty : Int)) rfl
          have HWX := HWA _ HS6.out.ft
          have hlk := run_look wc M _ _ HWX.out.map (ty : Int) _ (ways_find G R B4 F4 B16 F16 (ty : Int))
          clear hnm2 hnm hcl htl
          by_cases h1 : (ty : Int) = 1
          · have hda : ∀ n, daO bs ((nuO bs o5 2).map Prod.snd) (hdO nm ty cl tl) n = adO bs ((nuO bs o5 2).map Prod.snd) (hdO nm ty cl tl) n 4 4 := fun n => if_pos h1
            rw [if_pos h1] at hlk
            clear h1
            go_wp2_with fail
            refine (numberS_2 HS6.out.st hbl).mono ?_
            rintro e' w5 ⟨n, rfl, hn, hs, hp, hf⟩
            have HCN := Lib.hid (HCH.out n hp)
            have HS7 := Lib.hid (HS6.out.call HG.out hs hf)
            have HR7 := Lib.hid (HR6.out.keepB hf (by simp only [List.mem_singleton]; have h1 := HPP.out.1; have h2 := HG.out; omega))
            have HW7 := HWA _ HS7.out.ft
            have HGP : Hid (G ≠ P) := Lib.hid (by have h1 := HPP.out.1; have h2 := HG.out; omega)
            have HAP : Hid (∀ x, ad = some x → bs.length ≠ 0 → x.block < w5.heap.size ∧ x.block ∉ [P]) := Lib.hid (fun x hx hz => ⟨Nat.lt_of_lt_of_le (HAD.out x hx hz) HS7.out.ft.size, by have h1 := HAD.out x hx hz; have h2 := HPP.out.1; simp only [List.mem_singleton]; omega⟩)
            rw [hda n] at HCN
            clear hs hp hf HR6 HS6 HWX x1 HCH hlk
            go_wp2_with fail
            refine (address_any HS7.out.st HR7.out HGP.out HAP.out n hn hbl 4 4 B4 R F4 HW7.out.b4 HW7.out.r HW7.out.f4 ⟨HNE.out.2.2.1, by have h1 := HPP.out.1; have h2 := HLT.out; omega⟩ ⟨HNE.out.2.1, by have h1 := HPP.out.1; have h2 := HLT.out; omega⟩ ⟨HNE.out.2.2.2.1, by have h1 := HPP.out.1; have h2 := HLT.out; omega⟩).mono ?_
            rintro e' w6 ⟨rfl, r', hr6, hs6, hp6, hf6⟩
            rw [HCN.out] at hs6 hp6
            have HS8 := Lib.hid (HS7.out.call2 HG.out HPP.out.1 HPP.out.2 hs6 hf6)
            have HR8 := Lib.hid hr6
            have HI8 := Lib.hid (HI.out.next hkN HRE.out hp6)
            clear hs6 hp6 hf6 hr6 HS7 HR7 HW7 HAP HCN HI
            have H16 : Hid (r'.b.length = 16) := Lib.hid HR8.out.len
            have HY : Hid (All16 [r']) := Lib.hid (fun x hx => by rw [List.mem_singleton.1 hx]; exact H16.out)
            have HLE : Hid (D.length + [r'].length ≤ 100000) := Lib.hid (by simp only [List.length_cons, List.length_nil]; omega)
            generalize (reO bs o2).map Prod.snd = o6 at *
            go_wp2_with (first | refine load_recAt HR8 _ rfl rfl rfl ?_ | (refine build_recS H16 rfl _ rfl rfl (fun W5 HW5 => ?_); have hb5 : Below w6.heap.size w6 W5 := (by rw [HW5.out]; exact (Below.refl _ _).alloc (Nat.le_refl _) _); have HS9 := Lib.hid (HS8.out.below hb5); have HE := Lib.hid (show RowR W5 w.heap.size v D from ⟨HS9.out.row, HAL.out⟩); have HRG : Hid (W5.rangeAt w6.heap.size 0 (flatR [r'])) := Lib.hid (by rw [HW5.out]; have := built_new (w := w6) (cs := recL r') 71; simpa [flatR] using this); have HBS : Hid (w.heap.size ≤ W5.heap.size) := Lib.hid HS9.out.ft.size; clear hb5 HW5 HS8) | (refine append_recs HE _ _ rfl rfl rfl [r'] rfl (Lib.hid rfl) HRG HY HLE HBS (fun v6 w7 HO6 HG6 HF6 => ?_); clear HE HRG))
            have HSA := Lib.hid (HS9.out.grown HG.out HAD.out HO6.out.1 HG6.out)
            go_roundw
            case rel => exact ⟨k + 1, _, v6, o6, rfl, by go_num, by omega, by rw [List.length_append]; simp only [List.length_cons, List.length_nil]; omega, Lib.hid HO6.out.2, HSA, HI8⟩
            case measure => simp [intOf]; omega
          · by_cases h2 : (ty : Int) = 28
            · have hda : ∀ n, daO bs ((nuO bs o5 2).map Prod.snd) (hdO nm ty cl tl) n = adO bs ((nuO bs o5 2).map Prod.snd) (hdO nm ty cl tl) n 16 6 := fun n => (if_neg h1).trans (if_pos h2)
              rw [if_neg h1, if_pos h2] at hlk
              clear h1 h2
              go_wp2_with fail
              refine (numberS_2 HS6.out.st hbl).mono ?_
              rintro e' w5 ⟨n, rfl, hn, hs, hp, hf⟩
              have HCN := Lib.hid (HCH.out n hp)
              have HS7 := Lib.hid (HS6.out.call HG.out hs hf)
              have HR7 := Lib.hid (HR6.out.keepB hf (by simp only [List.mem_singleton]; have h1 := HPP.out.1; have h2 := HG.out; omega))
              have HW7 := HWA _ HS7.out.ft
              have HGP : Hid (G ≠ P) := Lib.hid (by have h1 := HPP.out.1; have h2 := HG.out; omega)
              have HAP : Hid (∀ x, ad = some x → bs.length ≠ 0 → x.block < w5.heap.size ∧ x.block ∉ [P]) := Lib.hid (fun x hx hz => ⟨Nat.lt_of_lt_of_le (HAD.out x hx hz) HS7.out.ft.size, by have h1 := HAD.out x hx hz; have h2 := HPP.out.1; simp only [List.mem_singleton]; omega⟩)
              rw [hda n] at HCN
              clear hs hp hf HR6 HS6 HWX x1 HCH hlk
              go_wp2_with fail
              refine (address_any HS7.out.st HR7.out HGP.out HAP.out n hn hbl 16 6 B16 R F16 HW7.out.b16 HW7.out.r HW7.out.f16 ⟨HNE.out.2.2.2.2.1, by have h1 := HPP.out.1; have h2 := HLT.out; omega⟩ ⟨HNE.out.2.1, by have h1 := HPP.out.1; have h2 := HLT.out; omega⟩ ⟨HNE.out.2.2.2.2.2, by have h1 := HPP.out.1; have h2 := HLT.out; omega⟩).mono ?_
              rintro e' w6 ⟨rfl, r', hr6, hs6, hp6, hf6⟩
              rw [HCN.out] at hs6 hp6
              have HS8 := Lib.hid (HS7.out.call2 HG.out HPP.out.1 HPP.out.2 hs6 hf6)
              have HR8 := Lib.hid hr6
              have HI8 := Lib.hid (HI.out.next hkN HRE.out hp6)
              clear hs6 hp6 hf6 hr6 HS7 HR7 HW7 HAP HCN HI
              have H16 : Hid (r'.b.length = 16) := Lib.hid HR8.out.len
              have HY : Hid (All16 [r']) := Lib.hid (fun x hx => by rw [List.mem_singleton.1 hx]; exact H16.out)
              have HLE : Hid (D.length + [r'].length ≤ 100000) := Lib.hid (by simp only [List.length_cons, List.length_nil]; omega)
              generalize (reO bs o2).map Prod.snd = o6 at *
              go_wp2_with (first | refine load_recAt HR8 _ rfl rfl rfl ?_ | (refine build_recS H16 rfl _ rfl rfl (fun W5 HW5 => ?_); have hb5 : Below w6.heap.size w6 W5 := (by rw [HW5.out]; exact (Below.refl _ _).alloc (Nat.le_refl _) _); have HS9 := Lib.hid (HS8.out.below hb5); have HE := Lib.hid (show RowR W5 w.heap.size v D from ⟨HS9.out.row, HAL.out⟩); have HRG : Hid (W5.rangeAt w6.heap.size 0 (flatR [r'])) := Lib.hid (by rw [HW5.out]; have := built_new (w := w6) (cs := recL r') 71; simpa [flatR] using this); have HBS : Hid (w.heap.size ≤ W5.heap.size) := Lib.hid HS9.out.ft.size; clear hb5 HW5 HS8) | (refine append_recs HE _ _ rfl rfl rfl [r'] rfl (Lib.hid rfl) HRG HY HLE HBS (fun v6 w7 HO6 HG6 HF6 => ?_); clear HE HRG))
              have HSA := Lib.hid (HS9.out.grown HG.out HAD.out HO6.out.1 HG6.out)
              go_roundw
              case rel => exact ⟨k + 1, _, v6, o6, rfl, by go_num, by omega, by rw [List.length_append]; simp only [List.length_cons, List.length_nil]; omega, Lib.hid HO6.out.2, HSA, HI8⟩
              case measure => simp [intOf]; omega
            · by_cases h3 : (ty : Int) = 5
              · have hda : ∀ n, daO bs ((nuO bs o5 2).map Prod.snd) (hdO nm ty cl tl) n = cnO bs ((nuO bs o5 2).map Prod.snd) (hdO nm ty cl tl) n := fun n => (if_neg h1).trans ((if_neg h2).trans (if_pos h3))
                rw [if_neg h1, if_neg h2, if_pos h3] at hlk
                clear h1 h2 h3
                go_wp2_with fail
                refine (numberS_2 HS6.out.st hbl).mono ?_
                rintro e' w5 ⟨n, rfl, hn, hs, hp, hf⟩
                have HCN := Lib.hid (HCH.out n hp)
                have HS7 := Lib.hid (HS6.out.call HG.out hs hf)
                have HR7 := Lib.hid (HR6.out.keepB hf (by simp only [List.mem_singleton]; have h1 := HPP.out.1; have h2 := HG.out; omega))
                have HW7 := HWA _ HS7.out.ft
                have HGP : Hid (G ≠ P) := Lib.hid (by have h1 := HPP.out.1; have h2 := HG.out; omega)
                have HAP : Hid (∀ x, ad = some x → bs.length ≠ 0 → x.block < w5.heap.size ∧ x.block ∉ [P]) := Lib.hid (fun x hx hz => ⟨Nat.lt_of_lt_of_le (HAD.out x hx hz) HS7.out.ft.size, by have h1 := HAD.out x hx hz; have h2 := HPP.out.1; simp only [List.mem_singleton]; omega⟩)
                rw [hda n] at HCN
                clear hs hp hf HR6 HS6 HWX x1 HCH hlk
                go_wp2_with fail
                refine (cname_any HS7.out.st HR7.out HGP.out HAP.out n hn hbl R HW7.out.r ⟨HNE.out.2.1, by have h1 := HPP.out.1; have h2 := HLT.out; omega⟩).mono ?_
                rintro e' w6 ⟨rfl, r', hr6, hs6, hp6, hf6⟩
                rw [HCN.out] at hs6 hp6
                have HS8 := Lib.hid (HS7.out.call2 HG.out HPP.out.1 HPP.out.2 hs6 hf6)
                have HR8 := Lib.hid hr6
                have HI8 := Lib.hid (HI.out.next hkN HRE.out hp6)
                clear hs6 hp6 hf6 hr6 HS7 HR7 HW7 HAP HCN HI
                have H16 : Hid (r'.b.length = 16) := Lib.hid HR8.out.len
                have HY : Hid (All16 [r']) := Lib.hid (fun x hx => by rw [List.mem_singleton.1 hx]; exact H16.out)
                have HLE : Hid (D.length + [r'].length ≤ 100000) := Lib.hid (by simp only [List.length_cons, List.length_nil]; omega)
                generalize (reO bs o2).map Prod.snd = o6 at *
                go_wp2_with (first | refine load_recAt HR8 _ rfl rfl rfl ?_ | (refine build_recS H16 rfl _ rfl rfl (fun W5 HW5 => ?_); have hb5 : Below w6.heap.size w6 W5 := (by rw [HW5.out]; exact (Below.refl _ _).alloc (Nat.le_refl _) _); have HS9 := Lib.hid (HS8.out.below hb5); have HE := Lib.hid (show RowR W5 w.heap.size v D from ⟨HS9.out.row, HAL.out⟩); have HRG : Hid (W5.rangeAt w6.heap.size 0 (flatR [r'])) := Lib.hid (by rw [HW5.out]; have := built_new (w := w6) (cs := recL r') 71; simpa [flatR] using this); have HBS : Hid (w.heap.size ≤ W5.heap.size) := Lib.hid HS9.out.ft.size; clear hb5 HW5 HS8) | (refine append_recs HE _ _ rfl rfl rfl [r'] rfl (Lib.hid rfl) HRG HY HLE HBS (fun v6 w7 HO6 HG6 HF6 => ?_); clear HE HRG))
                have HSA := Lib.hid (HS9.out.grown HG.out HAD.out HO6.out.1 HG6.out)
                go_roundw
                case rel => exact ⟨k + 1, _, v6, o6, rfl, by go_num, by omega, by rw [List.length_append]; simp only [List.length_cons, List.length_nil]; omega, Lib.hid HO6.out.2, HSA, HI8⟩
                case measure => simp [intOf]; omega
              · have hda : ∀ n, daO bs ((nuO bs o5 2).map Prod.snd) (hdO nm ty cl tl) n = otO bs ((nuO bs o5 2).map Prod.snd) (hdO nm ty cl tl) n := fun n => (if_neg h1).trans ((if_neg h2).trans (if_neg h3))
                rw [if_neg h1, if_neg h2, if_neg h3] at hlk
                clear h1 h2 h3
                go_wp2_with fail
                refine (numberS_2 HS6.out.st hbl).mono ?_
                rintro e' w5 ⟨n, rfl, hn, hs, hp, hf⟩
                have HCN := Lib.hid (HCH.out n hp)
                have HS7 := Lib.hid (HS6.out.call HG.out hs hf)
                have HR7 := Lib.hid (HR6.out.keepB hf (by simp only [List.mem_singleton]; have h1 := HPP.out.1; have h2 := HG.out; omega))
                have HW7 := HWA _ HS7.out.ft
                have HGP : Hid (G ≠ P) := Lib.hid (by have h1 := HPP.out.1; have h2 := HG.out; omega)
                have HAP : Hid (∀ x, ad = some x → bs.length ≠ 0 → x.block < w5.heap.size ∧ x.block ∉ [P]) := Lib.hid (fun x hx hz => ⟨Nat.lt_of_lt_of_le (HAD.out x hx hz) HS7.out.ft.size, by have h1 := HAD.out x hx hz; have h2 := HPP.out.1; simp only [List.mem_singleton]; omega⟩)
                rw [hda n] at HCN
                clear hs hp hf HR6 HS6 HWX x1 HCH hlk
                go_wp2_with fail
                refine (others_any HS7.out.st HR7.out HGP.out HAP.out n hn hbl).mono ?_
                rintro e' w6 ⟨rfl, r', hr6, hs6, hp6, hf6⟩
                rw [HCN.out] at hs6 hp6
                have HS8 := Lib.hid (HS7.out.call2 HG.out HPP.out.1 HPP.out.2 hs6 hf6)
                have HR8 := Lib.hid hr6
                have HI8 := Lib.hid (HI.out.next hkN HRE.out hp6)
                clear hs6 hp6 hf6 hr6 HS7 HR7 HW7 HAP HCN HI
                have H16 : Hid (r'.b.length = 16) := Lib.hid HR8.out.len
                have HY : Hid (All16 [r']) := Lib.hid (fun x hx => by rw [List.mem_singleton.1 hx]; exact H16.out)
                have HLE : Hid (D.length + [r'].length ≤ 100000) := Lib.hid (by simp only [List.length_cons, List.length_nil]; omega)
                generalize (reO bs o2).map Prod.snd = o6 at *
                go_wp2_with (first | refine load_recAt HR8 _ rfl rfl rfl ?_ | (refine build_recS H16 rfl _ rfl rfl (fun W5 HW5 => ?_); have hb5 : Below w6.heap.size w6 W5 := (by rw [HW5.out]; exact (Below.refl _ _).alloc (Nat.le_refl _) _); have HS9 := Lib.hid (HS8.out.below hb5); have HE := Lib.hid (show RowR W5 w.heap.size v D from ⟨HS9.out.row, HAL.out⟩); have HRG : Hid (W5.rangeAt w6.heap.size 0 (flatR [r'])) := Lib.hid (by rw [HW5.out]; have := built_new (w := w6) (cs := recL r') 71; simpa [flatR] using this); have HBS : Hid (w.heap.size ≤ W5.heap.size) := Lib.hid HS9.out.ft.size; clear hb5 HW5 HS8) | (refine append_recs HE _ _ rfl rfl rfl [r'] rfl (Lib.hid rfl) HRG HY HLE HBS (fun v6 w7 HO6 HG6 HF6 => ?_); clear HE HRG))
                have HSA := Lib.hid (HS9.out.grown HG.out HAD.out HO6.out.1 HG6.out)
                go_roundw
                case rel => exact ⟨k + 1, _, v6, o6, rfl, by go_num, by omega, by rw [List.length_append]; simp only [List.length_cons, List.length_nil]; omega, Lib.hid HO6.out.2, HSA, HI8⟩
                case measure => simp [intOf]; omega
      · have hz : (e == 0) = false := by simpa using he
        subst ho
        have HN := Lib.hid (SqI.stop HRE.out HI.out)
        go_wp2_with fail
        go_ret
        refine ⟨v, D, rfl, ⟨HS.out.row, HAL.out⟩, ?_, fun p hp => ?_, by omega, HS.out.ft⟩
        · rw [HN.out]; exact HS.out.st
        · rw [HN.out] at hp; cases hp
    · obtain rfl : N = k := by omega
      have hd : decide ((N : Int) < (N : Int)) = false := by simp
      have HN := Lib.hid HI.out.done
      go_wp2_with fail
      go_ret
      exact ⟨v, D, rfl, ⟨HS.out.row, HAL.out⟩, by rw [HN.out.1]; exact HS.out.st, HN.out.2, hDk, HS.out.ft⟩
end Go.Proofs.YtedmkdjijhflnaaGreat
namespace Go.Proofs.YtedmkdjijhflnaaGreat
open Go.RowKit

def digC (c : Nat) : Nat := if 48 ≤ c ∧ c ≤ 57 then c - 48 else if 97 ≤ c ∧ c ≤ 102 then c - 87 else if 65 ≤ c ∧ c ≤ 70 then c - 55 else 16
def byteOf (s : ByteArray) (k : Nat) : Nat := (s.data.toList.getD k 0).toNat
def most : Nat := 1099511627776
def numTo (s : ByteArray) (b : Nat) : Nat → Option Nat
  | 0 => some 0
  | k + 1 => match numTo s b k with
    | none => none
    | some n => if b ≤ digC (byteOf s k) then none else if most < n * b + digC (byteOf s k) then none else some (n * b + digC (byteOf s k))
def numB (s : ByteArray) (b : Nat) : Option Nat := if s.size = 0 then none else numTo s b s.size
def numRet (o : Option Nat) : Value := .tuple #[.int .i64 ((o.getD 0 : Nat) : Int), .bool o.isSome]

end Go.Proofs.YtedmkdjijhflnaaGreat
namespace Go.Proofs.YtedmkdjijhflnaaGreat
open Go.RowKit

def digI (c : Nat) : Int := if digC c < 16 then (digC c : Int) else -1

theorem mk_append (l m : List UInt8) : (⟨l.toArray⟩ : ByteArray) ++ ⟨m.toArray⟩ = ⟨(l ++ m).toArray⟩ := by
  apply bytes_ext
  rw [data_append]
theorem dec_length (u : Nat) (h : u ≤ 9223372036854775807) : (Lib.decDigits u).length ≤ 21 := by
  have := Lib.itoa_length_le (u : Int) (by omega) (by omega)
  unfold Lib.itoa at this
  rw [if_neg (by omega)] at this
  simpa using this

set_option maxHeartbeats 1000000 in
theorem refDecimal_nat (u : Nat) : ∀ (w : World), u ≤ 9223372036854775807 →
    Calls Tryz.prog 22 #[.int .i64 (u : Int)] w fun e w' => e = .returned (.string ⟨(Lib.decDigits u).toArray⟩) ∧ Below w.heap.size w w' := by
  induction u using Nat.strongRecOn with
  | _ u ih =>
    intro w hu
    have hone := one_byte (48 + u % 10) (by omega) w
    have e48 : ((48 + u % 10 : Nat) : Int) = 48 + (u : Int) % 10 := by omega
    rw [e48] at hone
    clear e48
    by_cases h10 : u < 10
    · have e : Lib.decDigits u = [UInt8.ofNat (48 + u % 10)] := by rw [Lib.decDigits, dif_pos h10, Nat.mod_eq_of_lt h10]
      rw [e]
      clear e ih
      generalize UInt8.ofNat (48 + u % 10) = c at hone ⊢
      go_enter Tryz.func22, Tryz.ntmps22
      go_wp2_with fail
      go_ret
      exact ⟨rfl, (Below.refl _ _).alloc (Nat.le_refl _) _⟩
    · have e : Lib.decDigits u = Lib.decDigits (u / 10) ++ [UInt8.ofNat (48 + u % 10)] := by rw [Lib.decDigits, dif_neg h10]
      have hlen := dec_length (u / 10) (by omega)
      have e10 : ((u / 10 : Nat) : Int) = (u : Int) / 10 := by omega
      have HI : Hid (∀ w, Calls Tryz.prog 22 #[.int .i64 ((u : Int) / 10)] w fun e w' => e = .returned (.string ⟨(Lib.decDigits (u / 10)).toArray⟩) ∧ Below w.heap.size w w') := by
        refine Lib.hid fun w => ?_
        have := ih (u / 10) (by omega) w (by omega)
        rw [e10] at this
        exact this
      rw [e, ← mk_append]
      clear e ih e10
      have hsz : (⟨(Lib.decDigits (u / 10)).toArray⟩ : ByteArray).size ≤ 21 := hlen
      generalize (⟨(Lib.decDigits (u / 10)).toArray⟩ : ByteArray) = t at *
      generalize UInt8.ofNat (48 + u % 10) = c at hone ⊢
      go_enter Tryz.func22, Tryz.ntmps22
      go_wp2_with fail
      refine (HI.out _).mono ?_
      rintro e w1 ⟨rfl, hb1⟩
      go_wp2_with fail
      go_ret
      exact ⟨rfl, ((Below.refl _ _).alloc (Nat.le_refl _) _).trans (hb1.mono (by simp))⟩

theorem itoa_min : (Lib.itoa (-9223372036854775808)) = [45, 57, 50, 50, 51, 51, 55, 50, 48, 51, 54, 56, 53, 52, 55, 55, 53, 56, 48, 56] := by
  unfold Lib.itoa
  rw [if_pos (by decide)]
  simp [Lib.decDigits]

set_option maxHeartbeats 1000000 in
theorem refDecimal_any (n : Int) (w : World) (h0 : -9223372036854775808 ≤ n) (h1 : n ≤ 9223372036854775807) :
    Calls Tryz.prog 22 #[.int .i64 n] w fun e w' => e = .returned (.string ⟨(Lib.itoa n).toArray⟩) ∧ Below w.heap.size w w' := by
  by_cases hn : 0 ≤ n
  · obtain ⟨u, rfl⟩ : ∃ u : Nat, n = (u : Int) := ⟨n.toNat, by omega⟩
    have e : Lib.itoa (u : Int) = Lib.decDigits u := by unfold Lib.itoa; rw [if_neg (by omega)]; rfl
    rw [e]
    exact refDecimal_nat u w (by omega)
  · by_cases hm : n < -9223372036854775807
    · obtain rfl : n = -9223372036854775808 := by omega
      rw [itoa_min]
      go_enter Tryz.func22, Tryz.ntmps22
      go_wp2_with fail
      go_ret
      exact ⟨rfl, Below.refl _ _⟩
    · obtain ⟨u, hu⟩ : ∃ u : Nat, -n = (u : Int) := ⟨(-n).toNat, by omega⟩
      have e : Lib.itoa n = [45] ++ Lib.decDigits u := by
        unfold Lib.itoa
        rw [if_pos (by omega), show n.natAbs = u by omega]
        rfl
      have hlen := dec_length u (by omega)
      rw [e, ← mk_append]
      have HI : Hid (∀ w, Calls Tryz.prog 22 #[.int .i64 (-n)] w fun e w' => e = .returned (.string ⟨(Lib.decDigits u).toArray⟩) ∧ Below w.heap.size w w') := by
        refine Lib.hid fun w => ?_
        rw [hu]
        exact refDecimal_nat u w (by omega)
      clear e hu
      have hsz : (⟨(Lib.decDigits u).toArray⟩ : ByteArray).size ≤ 21 := hlen
      generalize (⟨(Lib.decDigits u).toArray⟩ : ByteArray) = t at *
      go_enter Tryz.func22, Tryz.ntmps22
      go_wp2_with fail
      refine (HI.out _).mono ?_
      rintro e w1 ⟨rfl, hb1⟩
      go_wp2_with fail
      go_ret
      exact ⟨rfl, hb1⟩

end Go.Proofs.YtedmkdjijhflnaaGreat
namespace Go.Proofs.YtedmkdjijhflnaaGreat
open Go.RowKit

def readTo (s : ByteArray) (b : Nat) : Nat → Option Nat
  | 0 => some 0
  | k + 1 => match readTo s b k with
    | none => none
    | some n => if b ≤ digC (byteOf s k) then none else some (min (n * b + digC (byteOf s k)) 4294967296)
def readF (s : ByteArray) (b : Nat) : Option Nat := readTo s b s.size
def optI : Option Nat → Int
  | none => -1
  | some n => n
end Go.Proofs.YtedmkdjijhflnaaGreat
namespace Go.Proofs.YtedmkdjijhflnaaGreat
open Go.RowKit

def arr4 (a b c d : Nat) : Value := .agg #[.int .u8 (a : Int), .int .u8 (b : Int), .int .u8 (c : Int), .int .u8 (d : Int)]
def ofTo (a b c d : Nat) : Nat → Nat
  | 0 => 0
  | 1 => a
  | 2 => a * 256 + b
  | 3 => (a * 256 + b) * 256 + c
  | _ => ((a * 256 + b) * 256 + c) * 256 + d
def octet (p : ByteArray) : Option Nat :=
  match numB p 10 with
  | none => none
  | some n => if 255 < n then none else if 1 < p.size ∧ byteOf p 0 = 48 then none else some n
def octTo (l : List ByteArray) : Nat → Option Nat
  | 0 => some 0
  | k + 1 => match octTo l k with
    | none => none
    | some m => match octet (l.getD k ⟨#[]⟩) with
      | none => none
      | some n => some (m * 256 + n)
def strictB (s : ByteArray) : Option Nat := if (pieces s 46).length = 4 then octTo (pieces s 46) 4 else none
def strictRet (o : Option Nat) : Value := .tuple #[.int .u32 ((o.getD 0 : Nat) : Int), .bool o.isSome]
end Go.Proofs.YtedmkdjijhflnaaGreat
namespace Go.Proofs.YtedmkdjijhflnaaGreat
open Go.RowKit

end Go.Proofs.YtedmkdjijhflnaaGreat
namespace Go.Proofs.YtedmkdjijhflnaaGreat
open Go.RowKit

def hexG (p : ByteArray) : Option Nat := if 4 < p.size then none else numB p 16
def gapTo (s : ByteArray) : Nat → Option Nat
  | 0 => none
  | k + 1 => match gapTo s k with
    | some i => some i
    | none => if byteOf s k = 58 ∧ byteOf s (k + 1) = 58 then some k else none
def gapB (s : ByteArray) : Option Nat := gapTo s (s.size - 1)
def ints (l : List Nat) : List Value := l.map fun n => Value.int .i64 ((n : Nat) : Int)
def grTo (l : List ByteArray) (dot : Bool) : Nat → Option (List Nat)
  | 0 => some []
  | k + 1 => match grTo l dot k with
    | none => none
    | some out => match hexG (l.getD k ⟨#[]⟩) with
      | some v => some (out ++ [v])
      | none => match strictB (l.getD k ⟨#[]⟩) with
        | none => none
        | some v => if dot = true ∧ ¬ k + 1 < l.length then some (out ++ [v / 65536, v % 65536]) else none
def groupsB (s : ByteArray) (dot : Bool) : Option (List Nat) := if s.size = 0 then some [] else grTo (pieces s 58) dot (pieces s 58).length
def GrRet (w : World) (o : Option (List Nat)) (e : Ending) (w' : World) : Prop :=
  ∃ v, e = .returned (.tuple #[v, .bool o.isSome]) ∧ w'.ownsRow w.heap.size 3 1 v (o.getD []).length (ints (o.getD [])) ∧ Below w.heap.size w w'
end Go.Proofs.YtedmkdjijhflnaaGreat
namespace Go.Proofs.YtedmkdjijhflnaaGreat
open Go.RowKit

structure Arr8 (w : World) (B : Nat) (gs : List Nat) : Prop where
  len : gs.length = 8
  lt : B < w.heap.size
  cells : ∀ j, j < 8 → w.cell? ⟨B, j, none⟩ = some (.int .u16 ((gs.getD j 0 : Nat) : Int))
  live : ∀ j, j < 8 → w.frozen? ⟨B, j, none⟩ = false
def store8 (W : World) (R : Nat) (y0 y1 y2 y3 y4 y5 y6 y7 : Nat) : World := ((((((((W.setCell ⟨R, 0, none⟩ (.int .u16 ((y0 : Nat) : Int))).setCell ⟨R, 1, none⟩ (.int .u16 ((y1 : Nat) : Int))).setCell ⟨R, 2, none⟩ (.int .u16 ((y2 : Nat) : Int))).setCell ⟨R, 3, none⟩ (.int .u16 ((y3 : Nat) : Int))).setCell ⟨R, 4, none⟩ (.int .u16 ((y4 : Nat) : Int))).setCell ⟨R, 5, none⟩ (.int .u16 ((y5 : Nat) : Int))).setCell ⟨R, 6, none⟩ (.int .u16 ((y6 : Nat) : Int))).setCell ⟨R, 7, none⟩ (.int .u16 ((y7 : Nat) : Int)))
structure IntRow (w : World) (B : Nat) (b : Option Addr) (n c : Nat) (l : List Nat) : Prop where
  len : l.length = n
  cap : n ≤ c
  capm : c ≤ maxLen
  lies : n = 0 ∨ ∃ h, b = some ⟨h, 0, none⟩ ∧ B ≤ h ∧ h < w.heap.size ∧ ∀ j, j < n → w.cell? ⟨h, j, none⟩ = some (.int .i64 ((l.getD j 0 : Nat) : Int))
def mergeB (oa ob : Option (List Nat)) : Option (List Nat) :=
  match oa, ob with
  | some a, some b => if 7 < a.length + b.length then none else some (a ++ List.replicate (8 - a.length - b.length) 0 ++ b)
  | _, _ => none
def parseB (s : ByteArray) : Option (List Nat) :=
  match gapB s with
  | none => match groupsB s true with
    | none => none
    | some l => if l.length = 8 then some l else none
  | some k => mergeB (groupsB (s.extract 0 k) false) (groupsB (s.extract (k + 2) s.size) true)
def arr8 (l : List Nat) : Value := .agg (l.map fun n => Value.int .u16 ((n : Nat) : Int)).toArray
def parseRet (o : Option (List Nat)) : Value := .tuple #[arr8 (o.getD [0, 0, 0, 0, 0, 0, 0, 0]), .bool o.isSome]

end Go.Proofs.YtedmkdjijhflnaaGreat
namespace Go.Proofs.YtedmkdjijhflnaaGreat
open Go.RowKit

def lo4 (n : Nat) : Nat → List Nat
  | 0 => List.replicate 16 0
  | k + 1 => (lo4 n k).set (3 - k) (n / 256 ^ k % 256)
def b4 (n : Nat) : List Nat := lo4 n 4
end Go.Proofs.YtedmkdjijhflnaaGreat
namespace Go.Proofs.YtedmkdjijhflnaaGreat
open Go.RowKit

def map8 (n : Nat) : List Nat := [0, 0, 0, 0, 0, 65535, n / 65536, n % 65536]
def mapF (f : Int) : Int := if f = 4 then 6 else f
def mapB (f : Int) (bs : List Nat) : List Nat := if f = 4 then byL (map8 (fourB bs)) else bs
end Go.Proofs.YtedmkdjijhflnaaGreat
namespace Go.Proofs.YtedmkdjijhflnaaGreat
open Go.RowKit

def goodF (f : Int) : Int := if f.tmod 2 = 0 then 4 else 6
def goodB (f : Int) (bs : List Nat) : List Nat := if f.tmod 2 = 0 then b4 (fourB bs) else bs
end Go.Proofs.YtedmkdjijhflnaaGreat
namespace Go.Proofs.YtedmkdjijhflnaaGreat
open Go.RowKit

def cmpL : List Nat → List Nat → Int
  | x :: xs, y :: ys => if x < y then -1 else if y < x then 1 else cmpL xs ys
  | _, _ => 0
def cmpA (f : Int) (xs : List Nat) (g : Int) (ys : List Nat) : Int := if f = g then cmpL xs ys else if f < g then -1 else 1
end Go.Proofs.YtedmkdjijhflnaaGreat
namespace Go.Proofs.YtedmkdjijhflnaaGreat
open Go.RowKit

def sgn3 (x y : Int) : Int := if x < y then -1 else if y < x then 1 else 0
end Go.Proofs.YtedmkdjijhflnaaGreat
namespace Go.Proofs.YtedmkdjijhflnaaGreat
open Go.RowKit

theorem may6 (bs : List Nat) (h16 : bs.length = 16) : mayB 6 bs = true := by
  unfold mayB
  rw [show fromN 6 = 16 from rfl, zeroTo_end bs h16]
  rfl
end Go.Proofs.YtedmkdjijhflnaaGreat
namespace Go.Proofs.YtedmkdjijhflnaaGreat
open Go.RowKit

def mgP (bs : List UInt8) : Option Msg := (sqO (fun o => nuO bs o 2) 6 (some 0)).bind fun h => (sqO (quO bs) (h.1.getD 2 0) (some h.2)).bind fun q => (sqO (reO bs) (h.1.getD 3 0) (some q.2)).bind fun r1 => (sqO (reO bs) (h.1.getD 4 0) (some r1.2)).bind fun r2 => (sqO (reO bs) (h.1.getD 5 0) (some r2.2)).bind fun r3 =>
  if r3.2 = bs.length then some ⟨(h.1.getD 0 0 : Nat), (h.1.getD 1 0 : Nat), q.1, r1.1, r2.1, r3.1⟩ else none
theorem tkO_is {bs : List UInt8} {a n : Nat} {p : List UInt8 × Nat} (h : tkO bs (some a) n = some p) (ha : a ≤ bs.length) : p.1.length = n ∧ p.2 = a + n ∧ p.2 ≤ bs.length ∧ p.1 = (bs.drop a).take n := by
  have h2 : (if bs.length - a < n then none else some ((bs.drop a).take n, a + n)) = some p := h
  by_cases hs : bs.length - a < n
  · rw [if_pos hs] at h2; cases h2
  · rw [if_neg hs] at h2
    cases h2
    refine ⟨by rw [List.length_take, List.length_drop]; omega, rfl, by show a + n ≤ _; omega, rfl⟩
theorem nuO_is {bs : List UInt8} {a n : Nat} {p : Nat × Nat} (h : nuO bs (some a) n = some p) (ha : a ≤ bs.length) : p.1 < 256 ^ n ∧ p.2 = a + n ∧ p.2 ≤ bs.length := by
  unfold nuO at h
  obtain ⟨q, hq, rfl⟩ := Option.map_eq_some_iff.1 h
  obtain ⟨h1, h2, h3, _⟩ := tkO_is hq ha
  refine ⟨?_, h2, h3⟩
  have := valB_lt q.1
  rwa [h1] at this
theorem naO_is {bs : List UInt8} {a : Nat} {p : ByteArray × Nat} (h : naO bs (some a) = some p) (ha : a ≤ bs.length) : mayN p.1 = true ∧ p.1.size ≤ 1000 ∧ p.2 ≤ bs.length := by
  have h2 : (if (readB bs (a + 1) a [] none).2.2 = 0 then some ((readB bs (a + 1) a [] none).1, (readB bs (a + 1) a [] none).2.1) else none) = some p := h
  by_cases hz : (readB bs (a + 1) a [] none).2.2 = 0
  · rw [if_pos hz] at h2
    cases h2
    have g := read_good ha hz
    exact ⟨g.1, sizes_read bs a, g.2.2⟩
  · rw [if_neg hz] at h2; cases h2
theorem wf_nat (k : Nat) (h : k ≤ 4294967296) : (Lit.int .i64 (k : Int)).wf = true := WalkArith.wf_i64 (by omega)
theorem word_nat {k : Nat} (h : k < 256 ^ 2) : wordN (k : Int) = true := decide_eq_true ⟨by omega, by have : k < 65536 := h; omega⟩
theorem quO_is {bs : List UInt8} {a : Nat} {p : Qu × Nat} (h : quO bs (some a) = some p) (ha : a ≤ bs.length) : (mayQ9 p.1 = true ∧ FitQ p.1 ∧ p.1.name.size ≤ 1900000) ∧ p.2 ≤ bs.length := by
  unfold quO at h
  obtain ⟨p1, h1, h⟩ := Option.bind_eq_some_iff.1 h
  obtain ⟨p2, h2, h⟩ := Option.bind_eq_some_iff.1 h
  obtain ⟨p3, h3, rfl⟩ := Option.map_eq_some_iff.1 h
  have g1 := naO_is h1 ha
  have g2 := nuO_is h2 g1.2.2
  have g3 := nuO_is h3 g2.2.2
  have k2 : p2.1 < 65536 := g2.1
  have k3 : p3.1 < 65536 := g3.1
  refine ⟨⟨?_, ⟨wf_nat _ (by omega), wf_nat _ (by omega), by show p1.1.size ≤ maxLen; unfold maxLen; omega⟩, by show p1.1.size ≤ _; omega⟩, g3.2.2⟩
  unfold mayQ9
  simp only [g1.1, word_nat g2.1, word_nat g3.1, Bool.and_self]
theorem putB_lt {b : List Nat} {l : List UInt8} (h : ∀ x ∈ b, x < 256) : ∀ x ∈ putB b l, x < 256 := fun x hx => by
  unfold putB at hx
  rcases List.mem_append.1 hx with hx | hx
  · obtain ⟨y, _, rfl⟩ := List.mem_map.1 hx
    exact y.toNat_lt
  · exact h x (List.mem_of_mem_drop hx)
theorem zeros_lt : ∀ x ∈ List.replicate 16 0, x < 256 := fun x hx => by rw [(List.mem_replicate.1 hx).2]; decide
theorem ttlO_le (n : Nat) : ttlO n ≤ 2147483647 := by unfold ttlO; split <;> omega
theorem mayB4_put {l : List UInt8} (h : l.length = 4) : mayB 4 (putB (List.replicate 16 0) l) = true := by
  match l, h with
  | [a, b, c, d], _ => rfl
theorem daO_is {bs : List UInt8} {a n : Nat} {nm : ByteArray} {ty cl tl : Nat} {p : Rec × Nat} (h : daO bs (some a) (hdO nm ty cl tl) n = some p) (ha : a ≤ bs.length) (hn : n < 256 ^ 2) (hnm : mayN nm = true) (hns : nm.size ≤ 1000) (hty : ty < 256 ^ 2) (hcl : cl < 256 ^ 2) : (mayR p.1 = true ∧ Fit p.1 ∧ Room p.1) ∧ p.2 ≤ bs.length := by
  have htl := ttlO_le tl
  have t0 : (0 : Int) ≤ ((ttlO tl : Nat) : Int) := by omega
  have t1 : ((ttlO tl : Nat) : Int) ≤ 2147483647 := by omega
  have k1 : ty < 65536 := hty
  have k2 : cl < 65536 := hcl
  have k3 : n < 65536 := hn
  have w1 := wf_nat ty (by omega)
  have w2 := wf_nat cl (by omega)
  have w3 := wf_nat (ttlO tl) (by omega)
  have m1 : nm.size ≤ maxLen := by unfold maxLen; omega
  have hhead : ∀ (f : Int) (b : List Nat) (tg da : ByteArray), da.size ≤ 65535 → headR ⟨nm, (ty : Int), (cl : Int), ((ttlO tl : Nat) : Int), f, b, tg, da⟩ = true := fun f b tg da hd => by
    unfold headR
    simp only [hnm, word_nat hty, word_nat hcl, decide_eq_true t0, decide_eq_true t1, decide_eq_true hd, Bool.and_self]
  unfold daO at h
  have e0 : (hdO nm ty cl tl).ty = (ty : Int) := rfl
  rw [e0] at h
  by_cases h1 : (ty : Int) = 1
  · rw [if_pos h1] at h
    unfold adO at h
    by_cases h4 : n = 4
    · rw [if_pos h4] at h
      obtain ⟨q, hq, rfl⟩ := Option.map_eq_some_iff.1 h
      obtain ⟨g1, g2, g3, _⟩ := tkO_is hq ha
      refine ⟨⟨?_, ⟨putB_len rfl q.1, putB_lt zeros_lt, w1, w2, w3, (by decide : (Lit.int .i64 4).wf = true), m1, Nat.zero_le _, Nat.zero_le _⟩, ⟨by show nm.size ≤ _; omega, Nat.zero_le _⟩⟩, g3⟩
      show mayR ⟨nm, (ty : Int), (cl : Int), ((ttlO tl : Nat) : Int), 4, putB (List.replicate 16 0) q.1, ⟨#[]⟩, ⟨#[]⟩⟩ = true
      unfold mayR bodyR
      rw [hhead _ _ _ _ (Nat.zero_le _)]
      simp only
      rw [if_pos h1, mayB4_put (by rw [g1, h4])]
      rfl
    · rw [if_neg h4] at h; cases h
  · rw [if_neg h1] at h
    by_cases h2 : (ty : Int) = 28
    · rw [if_pos h2] at h
      unfold adO at h
      by_cases h4 : n = 16
      · rw [if_pos h4] at h
        obtain ⟨q, hq, rfl⟩ := Option.map_eq_some_iff.1 h
        obtain ⟨g1, g2, g3, _⟩ := tkO_is hq ha
        refine ⟨⟨?_, ⟨putB_len rfl q.1, putB_lt zeros_lt, w1, w2, w3, (by decide : (Lit.int .i64 6).wf = true), m1, Nat.zero_le _, Nat.zero_le _⟩, ⟨by show nm.size ≤ _; omega, Nat.zero_le _⟩⟩, g3⟩
        show mayR ⟨nm, (ty : Int), (cl : Int), ((ttlO tl : Nat) : Int), 6, putB (List.replicate 16 0) q.1, ⟨#[]⟩, ⟨#[]⟩⟩ = true
        unfold mayR bodyR
        rw [hhead _ _ _ _ (Nat.zero_le _)]
        simp only
        rw [if_neg h1, if_pos h2, may6 _ (putB_len rfl q.1)]
        rfl
      · rw [if_neg h4] at h; cases h
    · rw [if_neg h2] at h
      by_cases h3 : (ty : Int) = 5
      · rw [if_pos h3] at h
        unfold cnO at h
        obtain ⟨a2, e2, h⟩ := Option.bind_eq_some_iff.1 h
        cases e2
        obtain ⟨q, hq, h⟩ := Option.bind_eq_some_iff.1 h
        by_cases h5 : q.2 = a + n
        · rw [if_pos h5] at h
          cases h
          obtain ⟨g1, g2, g3⟩ := naO_is hq ha
          refine ⟨⟨?_, ⟨rfl, zeros_lt, w1, w2, w3, (by decide : (Lit.int .i64 0).wf = true), m1, by show q.1.size ≤ maxLen; unfold maxLen; omega, Nat.zero_le _⟩, ⟨by show nm.size ≤ _; omega, by show q.1.size ≤ _; omega⟩⟩, g3⟩
          show mayR ⟨nm, (ty : Int), (cl : Int), ((ttlO tl : Nat) : Int), 0, List.replicate 16 0, q.1, ⟨#[]⟩⟩ = true
          unfold mayR bodyR
          rw [hhead _ _ _ _ (Nat.zero_le _)]
          simp only
          rw [if_neg h1, if_neg h2, if_pos h3, g1]
          rfl
        · rw [if_neg h5] at h; cases h
      · rw [if_neg h3] at h
        unfold otO at h
        obtain ⟨q, hq, rfl⟩ := Option.map_eq_some_iff.1 h
        obtain ⟨g1, g2, g3, _⟩ := tkO_is hq ha
        have hd : (⟨q.1.toArray⟩ : ByteArray).size ≤ 65535 := by show q.1.toArray.size ≤ _; rw [List.size_toArray]; omega
        refine ⟨⟨?_, ⟨rfl, zeros_lt, w1, w2, w3, (by decide : (Lit.int .i64 0).wf = true), m1, Nat.zero_le _, by show (⟨q.1.toArray⟩ : ByteArray).size ≤ maxLen; unfold maxLen; omega⟩, ⟨by show nm.size ≤ _; omega, Nat.zero_le _⟩⟩, g3⟩
        show mayR ⟨nm, (ty : Int), (cl : Int), ((ttlO tl : Nat) : Int), 0, List.replicate 16 0, ⟨#[]⟩, ⟨q.1.toArray⟩⟩ = true
        unfold mayR bodyR
        rw [hhead _ _ _ _ hd]
        simp only
        rw [if_neg h1, if_neg h2, if_neg h3]
        rfl
theorem reO_is {bs : List UInt8} {a : Nat} {p : Rec × Nat} (h : reO bs (some a) = some p) (ha : a ≤ bs.length) : (mayR p.1 = true ∧ Fit p.1 ∧ Room p.1) ∧ p.2 ≤ bs.length := by
  unfold reO at h
  obtain ⟨p1, h1, h⟩ := Option.bind_eq_some_iff.1 h
  obtain ⟨p2, h2, h⟩ := Option.bind_eq_some_iff.1 h
  obtain ⟨p3, h3, h⟩ := Option.bind_eq_some_iff.1 h
  obtain ⟨p4, h4, h⟩ := Option.bind_eq_some_iff.1 h
  obtain ⟨p5, h5, h⟩ := Option.bind_eq_some_iff.1 h
  have g1 := naO_is h1 ha
  have g2 := nuO_is h2 g1.2.2
  have g3 := nuO_is h3 g2.2.2
  have g4 := nuO_is h4 g3.2.2
  have g5 := nuO_is h5 g4.2.2
  exact daO_is h g5.2.2 g5.1 g1.1 g1.2.1 g2.1 g3.1
theorem sqO_is {α : Type} {f : Option Nat → Option (α × Nat)} {L : Nat} {Q : α → Prop} (hf : ∀ a p, f (some a) = some p → a ≤ L → Q p.1 ∧ p.2 ≤ L) : ∀ (k a : Nat) (t : List α × Nat), sqO f k (some a) = some t → a ≤ L → t.1.length = k ∧ (∀ x ∈ t.1, Q x) ∧ t.2 ≤ L
  | 0, a, t, h, ha => by cases h; exact ⟨rfl, (fun x hx => by cases hx), ha⟩
  | k + 1, a, t, h, ha => by
    have h2 : (f (some a)).bind (fun p => (sqO f k (some p.2)).map fun t => (p.1 :: t.1, t.2)) = some t := h
    obtain ⟨p, hp, h3⟩ := Option.bind_eq_some_iff.1 h2
    obtain ⟨s, hs, rfl⟩ := Option.map_eq_some_iff.1 h3
    obtain ⟨q1, q2⟩ := hf a p hp ha
    obtain ⟨r1, r2, r3⟩ := sqO_is hf k p.2 s hs q2
    refine ⟨by simp [r1], fun x hx => ?_, r3⟩
    rcases List.mem_cons.1 hx with rfl | hx
    · exact q1
    · exact r2 x hx
theorem mgP_is {bs : List UInt8} {m : Msg} (h : mgP bs = some m) : mayM m = true ∧ RoomM m ∧ (m.qs.length ≤ 65535 ∧ m.an.length ≤ 65535 ∧ m.au.length ≤ 65535 ∧ m.mo.length ≤ 65535) ∧ (∀ q ∈ m.qs, FitQ q) ∧ (∀ r ∈ m.an, Fit r) ∧ (∀ r ∈ m.au, Fit r) ∧ ∀ r ∈ m.mo, Fit r := by
  unfold mgP at h
  obtain ⟨hd, hh, h⟩ := Option.bind_eq_some_iff.1 h
  obtain ⟨q, hq, h⟩ := Option.bind_eq_some_iff.1 h
  obtain ⟨r1, h1, h⟩ := Option.bind_eq_some_iff.1 h
  obtain ⟨r2, h2, h⟩ := Option.bind_eq_some_iff.1 h
  obtain ⟨r3, h3, h⟩ := Option.bind_eq_some_iff.1 h
  by_cases he : r3.2 = bs.length
  · rw [if_pos he] at h
    cases h
    obtain ⟨a1, a2, a3⟩ := sqO_is (L := bs.length) (Q := fun n => n < 256 ^ 2) (fun a p hp ha => ⟨(nuO_is hp ha).1, (nuO_is hp ha).2.2⟩) 6 0 hd hh (Nat.zero_le _)
    obtain ⟨b1, b2, b3⟩ := sqO_is (L := bs.length) (Q := fun q => mayQ9 q = true ∧ FitQ q ∧ q.name.size ≤ 1900000) (fun a p hp ha => quO_is hp ha) _ _ q hq a3
    obtain ⟨c1, c2, c3⟩ := sqO_is (L := bs.length) (Q := fun r => mayR r = true ∧ Fit r ∧ Room r) (fun a p hp ha => reO_is hp ha) _ _ r1 h1 b3
    obtain ⟨d1, d2, d3⟩ := sqO_is (L := bs.length) (Q := fun r => mayR r = true ∧ Fit r ∧ Room r) (fun a p hp ha => reO_is hp ha) _ _ r2 h2 c3
    obtain ⟨e1, e2, e3⟩ := sqO_is (L := bs.length) (Q := fun r => mayR r = true ∧ Fit r ∧ Room r) (fun a p hp ha => reO_is hp ha) _ _ r3 h3 d3
    have hw : ∀ i, hd.1.getD i 0 < 65536 := fun i => by
      rw [List.getD_eq_getElem?_getD]
      cases hg : hd.1[i]? with
      | none => decide
      | some x => exact a2 x (List.mem_of_getElem? hg)
    have l2 := hw 2
    have l3 := hw 3
    have l4 := hw 4
    have l5 := hw 5
    refine ⟨?_, ⟨fun x hx => (b2 x hx).2.2, fun x hx => (c2 x hx).2.2, fun x hx => (d2 x hx).2.2, fun x hx => (e2 x hx).2.2, by simp only; omega, by simp only; omega, by simp only; omega, by simp only; omega⟩, ⟨by simp only; omega, by simp only; omega, by simp only; omega, by simp only; omega⟩, fun x hx => (b2 x hx).2.1, fun x hx => (c2 x hx).2.1, fun x hx => (d2 x hx).2.1, fun x hx => (e2 x hx).2.1⟩
    unfold mayM
    simp only [word_nat (hw 0), word_nat (hw 1), List.all_eq_true.2 (fun x hx => (b2 x hx).1), List.all_eq_true.2 (fun x hx => (c2 x hx).1), List.all_eq_true.2 (fun x hx => (d2 x hx).1), List.all_eq_true.2 (fun x hx => (e2 x hx).1), Bool.and_self]
  · rw [if_neg he] at h; cases h
end Go.Proofs.YtedmkdjijhflnaaGreat
namespace Go.Proofs.YtedmkdjijhflnaaGreat
open Go.RowKit

theorem build_msg2 {ops : Array Oper} {rest : List Oper} {op : Oper} {a : Act} {w : World} {Q : Exit → Act → World → Prop} {i f : Int} (hg : op.guard = none) (x0 x1 : Operand) (ho : op.op = .build 83 #[(0, x0), (1, x1)])
    (h0 : a.eval x0 = .int .i64 i) (h1 : a.eval x1 = .int .i64 f) (h : wpList Tryz.prog ops Q rest (a.put op.dst (.agg #[.int .i64 i, .int .i64 f, .slice none 0 0, .slice none 0 0, .slice none 0 0, .slice none 0 0])) w) : wpList Tryz.prog ops Q (op :: rest) a w := by
  have e0 : Tryz.prog.built 83 [(0, .int .i64 i), (1, .int .i64 f)] = some #[.int .i64 i, .int .i64 f, .slice none 0 0, .slice none 0 0, .slice none 0 0, .slice none 0 0] := rfl
  have e : Tryz.prog.built 83 ((#[(0, x0), (1, x1)] : Array (Nat × Operand)).map fun (i, x) => (i, a.eval x)).toList = some #[.int .i64 i, .int .i64 f, .slice none 0 0, .slice none 0 0, .slice none 0 0, .slice none 0 0] := by
    simp only [List.map_toArray, List.map_cons, List.map_nil]
    rw [h0, h1]; exact e0
  refine wpList_build hg 83 _ ho (by rw [e]; rfl) ?_
  rw [e]
  exact h
theorem CellsAt.footc {w w' : World} {G : Nat} {vs : List Value} (h : CellsAt w G vs) {F F' : List Nat} (hf : Foot F F' w w') (hG : G ∉ F) : CellsAt w' G vs := by
  have hk := hf.keep G h.lt hG
  exact ⟨Nat.lt_of_lt_of_le h.lt hf.size, fun j u hu => (World.cell?_of_block (w := w) (a := ⟨G, 0 + j, none⟩) hk).trans (h.range j u hu), fun j hj => by
    rw [World.cell?_of_block (w := w) (a := ⟨G, 0 + j, none⟩) hk, World.frozen?_of_block (w := w) (a := ⟨G, 0 + j, none⟩) hk]; exact h.there j hj⟩
theorem own_foot1 {w w' : World} {b n z K : Nat} {t : TypeId} {v : Value} {xs : List Value} (h : w.ownsRow b t z v n xs) (hf : Foot [K] [K] w w') (hK : K < b) : w'.ownsRow b t z v n xs :=
  own_kept h (fun g hg => hf.keep g (h.lt g hg).2 (fun e => by have := (h.lt g hg).1; have := List.mem_singleton.1 e; omega))
structure MSt (w : World) (G : Nat) (ad : Option Addr) (c : Nat) (bs : List UInt8) (Pr Pm A : Nat) (vm cs : List Value) (o : Option Nat) (wr : World) : Prop where
  st : RdS wr G ad c bs o
  ft : Foot [G] [G] w wr
  res : CellsAt wr Pr zM
  msg : CellsAt wr Pm vm
  cnt : CellsAt wr A cs
  ord : G < w.heap.size ∧ w.heap.size ≤ Pr ∧ Pr < Pm ∧ Pm < A
  had : ∀ x, ad = some x → bs.length ≠ 0 → x.block < w.heap.size
section
variable {w wr w' : World} {G : Nat} {ad : Option Addr} {c : Nat} {bs : List UInt8} {Pr Pm A : Nat} {vm cs : List Value} {o o' : Option Nat}
theorem MSt.call (h : MSt w G ad c bs Pr Pm A vm cs o wr) (hs : RdS w' G ad c bs o') (hf : Foot [G] [G] wr w') : MSt w G ad c bs Pr Pm A vm cs o' w' := by
  obtain ⟨q1, q2, q3, q4⟩ := h.ord
  exact ⟨hs, h.ft.trans hf, h.res.footc hf (by simp only [List.mem_singleton]; omega), h.msg.footc hf (by simp only [List.mem_singleton]; omega), h.cnt.footc hf (by simp only [List.mem_singleton]; omega), h.ord, h.had⟩
theorem MSt.below (h : MSt w G ad c bs Pr Pm A vm cs o wr) (hb : Below wr.heap.size wr w') : MSt w G ad c bs Pr Pm A vm cs o w' := ⟨h.st.below hb, h.ft.trans (Foot.ofBelow _ hb), h.res.below hb, h.msg.below hb, h.cnt.below hb, h.ord, h.had⟩
theorem MSt.foot (h : MSt w G ad c bs Pr Pm A vm cs o wr) {K k : Nat} {v : Value} (hK : w.heap.size ≤ K) : RdS (wr.setCell ⟨K, k, none⟩ v) G ad c bs o ∧ Foot [G] [G] w (wr.setCell ⟨K, k, none⟩ v) := by
  obtain ⟨q1, q2, q3, q4⟩ := h.ord
  have hf := Foot.ofSet wr K k v
  refine ⟨h.st.keep hf (by simp only [List.mem_singleton]; omega) (fun x hx hz => ⟨Nat.lt_of_lt_of_le (h.had x hx hz) h.ft.size, by have := h.had x hx hz; simp only [List.mem_singleton]; omega⟩), ⟨hf.os.trans h.ft.os, hf.tape.trans h.ft.tape, hf.output.trans h.ft.output, Nat.le_trans h.ft.size hf.size, fun j hj hn => (hf.keep j (Nat.lt_of_lt_of_le hj h.ft.size) (by simp only [List.mem_singleton]; omega)).trans (h.ft.keep j hj hn), fun j hj => .inl hj⟩⟩
theorem MSt.setA (h : MSt w G ad c bs Pr Pm A vm cs o wr) (k : Nat) (v : Value) (hk : k < cs.length) : MSt w G ad c bs Pr Pm A vm (cs.set k v) o (wr.setCell ⟨A, k, none⟩ v) := by
  obtain ⟨q1, q2, q3, q4⟩ := h.ord
  obtain ⟨h1, h2⟩ := h.foot (K := A) (k := k) (v := v) (by omega)
  exact ⟨h1, h2, h.res.other (by omega) _ _, h.msg.other (by omega) _ _, h.cnt.set k v hk, h.ord, h.had⟩
theorem MSt.setM (h : MSt w G ad c bs Pr Pm A vm cs o wr) (k : Nat) (v : Value) (hk : k < vm.length) : MSt w G ad c bs Pr Pm A (vm.set k v) cs o (wr.setCell ⟨Pm, k, none⟩ v) := by
  obtain ⟨q1, q2, q3, q4⟩ := h.ord
  obtain ⟨h1, h2⟩ := h.foot (K := Pm) (k := k) (v := v) (by omega)
  exact ⟨h1, h2, h.res.other (by omega) _ _, h.msg.set k v hk, h.cnt.other (by omega) _ _, h.ord, h.had⟩
end
theorem MSt.footF {w wr w' : World} {G : Nat} {ad : Option Addr} {c : Nat} {bs : List UInt8} {Pr Pm A : Nat} {vm cs : List Value} {o : Option Nat} (h : MSt w G ad c bs Pr Pm A vm cs o wr) {K : Nat} (hf : Foot [K] [K] wr w') (hK : w.heap.size ≤ K) : RdS w' G ad c bs o ∧ Foot [G] [G] w w' := by
  obtain ⟨q1, q2, q3, q4⟩ := h.ord
  refine ⟨h.st.keep hf (by simp only [List.mem_singleton]; omega) (fun x hx hz => ⟨Nat.lt_of_lt_of_le (h.had x hx hz) h.ft.size, by have := h.had x hx hz; simp only [List.mem_singleton]; omega⟩), ⟨hf.os.trans h.ft.os, hf.tape.trans h.ft.tape, hf.output.trans h.ft.output, Nat.le_trans h.ft.size hf.size, fun j hj hn => (hf.keep j (Nat.lt_of_lt_of_le hj h.ft.size) (by simp only [List.mem_singleton]; omega)).trans (h.ft.keep j hj hn), fun j hj => .inl hj⟩⟩
theorem mg_chain {bs : List UInt8} {id fl c0 c1 c2 c3 : Nat} {o3 o4 o5 o6 o7 : Option Nat} {D0 : List Qu} {D1 D2 D3 : List Rec} (h0 : (sqO (fun o => nuO bs o 2) 6 (some 0)).map Prod.snd = o3 ∧ ∀ p, sqO (fun o => nuO bs o 2) 6 (some 0) = some p → [id, fl, c0, c1, c2, c3] = p.1)
    (e4 : (sqO (quO bs) c0 o3).map Prod.snd = o4) (p0 : ∀ p, sqO (quO bs) c0 o3 = some p → D0 = p.1) (e5 : (sqO (reO bs) c1 o4).map Prod.snd = o5) (p1 : ∀ p, sqO (reO bs) c1 o4 = some p → D1 = p.1) (e6 : (sqO (reO bs) c2 o5).map Prod.snd = o6) (p2 : ∀ p, sqO (reO bs) c2 o5 = some p → D2 = p.1) (e7 : (sqO (reO bs) c3 o6).map Prod.snd = o7) (p3 : ∀ p, sqO (reO bs) c3 o6 = some p → D3 = p.1) :
    (o7 = some bs.length → mgP bs = some ⟨(id : Int), (fl : Int), D0, D1, D2, D3⟩) ∧ (o7 ≠ some bs.length → mgP bs = none) := by
  have hq : quO bs none = none := rfl
  have hr : reO bs none = none := rfl
  unfold mgP
  cases g0 : sqO (fun o => nuO bs o 2) 6 (some 0) with
  | none =>
    rw [g0] at h0
    have h1 : o3 = none := h0.1.symm
    subst h1
    rw [sqO_none hq] at e4; subst e4
    rw [Option.map_none, sqO_none hr] at e5; subst e5
    rw [Option.map_none, sqO_none hr] at e6; subst e6
    rw [Option.map_none, sqO_none hr] at e7; subst e7
    exact ⟨(fun h => by cases h), fun _ => rfl⟩
  | some hd =>
    rw [g0] at h0
    obtain ⟨h1, h2⟩ := h0
    have h3 := h2 hd rfl
    have h4 : o3 = some hd.2 := h1.symm
    subst h4
    simp only [Option.bind_some]
    rw [← h3]
    simp only [List.getD_cons_zero, List.getD_cons_succ]
    cases g1 : sqO (quO bs) c0 (some hd.2) with
    | none =>
      rw [g1] at e4; subst e4
      rw [Option.map_none, sqO_none hr] at e5; subst e5
      rw [Option.map_none, sqO_none hr] at e6; subst e6
      rw [Option.map_none, sqO_none hr] at e7; subst e7
      exact ⟨(fun h => by cases h), fun _ => rfl⟩
    | some q =>
      rw [g1] at e4; subst e4
      have d0 := p0 q g1
      simp only [Option.bind_some, Option.map_some] at e5 p1 ⊢
      cases g2 : sqO (reO bs) c1 (some q.2) with
      | none =>
        rw [g2] at e5; subst e5
        rw [Option.map_none, sqO_none hr] at e6; subst e6
        rw [Option.map_none, sqO_none hr] at e7; subst e7
        exact ⟨(fun h => by cases h), fun _ => rfl⟩
      | some r1 =>
        rw [g2] at e5; subst e5
        have d1 := p1 r1 g2
        simp only [Option.bind_some, Option.map_some] at e6 p2 ⊢
        cases g3 : sqO (reO bs) c2 (some r1.2) with
        | none =>
          rw [g3] at e6; subst e6
          rw [Option.map_none, sqO_none hr] at e7; subst e7
          exact ⟨(fun h => by cases h), fun _ => rfl⟩
        | some r2 =>
          rw [g3] at e6; subst e6
          have d2 := p2 r2 g3
          simp only [Option.bind_some, Option.map_some] at e7 p3 ⊢
          cases g4 : sqO (reO bs) c3 (some r2.2) with
          | none =>
            rw [g4] at e7; subst e7
            exact ⟨(fun h => by cases h), fun _ => rfl⟩
          | some r3 =>
            rw [g4] at e7; subst e7
            have d3 := p3 r3 g4
            simp only [Option.bind_some, Option.map_some]
            refine ⟨fun h => ?_, fun h => ?_⟩
            · rw [if_pos (Option.some.inj h), d0, d1, d2, d3]
            · rw [if_neg (fun e => h (by rw [e]))]
def MsgRet (w : World) (G : Nat) (ad : Option Addr) (c : Nat) (bs : List UInt8) (e' : Ending) (w' : World) : Prop :=
  ∃ o', RdS w' G ad c bs o' ∧ Foot [G] [G] w w' ∧ ((o' = none ∧ mgP bs = none ∧ ∃ vs : List Value, vs.length = 6 ∧ vs.all (fun u => u.oneCell') = true ∧ e' = .returned (.agg vs.toArray)) ∨
    ∃ a m bq b1 b2 b3 dq d1 d2 d3, o' = some a ∧ mgP bs = some m ∧ e' = .returned (msgV m bq b1 b2 b3 dq d1 d2 d3) ∧ MsgIn w' m bq b1 b2 b3 dq d1 d2 d3 ∧ ∀ x, bq = some x ∨ b1 = some x ∨ b2 = some x ∨ b3 = some x → w.heap.size ≤ x.block)
set_option maxRecDepth 100000 in
set_option maxHeartbeats 8000000 in
theorem message_any9 {w : World} {G : Nat} {ad : Option Addr} {c : Nat} {bs : List UInt8} (h : RdS w G ad c bs (some 0)) (hbl : bs.length ≤ 100000) (had : ∀ x, ad = some x → bs.length ≠ 0 → x.block < w.heap.size) :
    Calls Tryz.prog 80 #[.pointer (some ⟨G, 0, none⟩)] w (MsgRet w G ad c bs) := by
  have hG : G < w.heap.size := by
    obtain ⟨a, e, h1, _⟩ := h.any
    exact h1.cells.lt
  obtain ⟨W, hW⟩ : ∃ W, w.alloc (.cells #[.int .i64 0, .int .i64 0, .slice none 0 0, .slice none 0 0, .slice none 0 0, .slice none 0 0] 83) = W := ⟨_, rfl⟩
  have hb0 : Below w.heap.size w W := by rw [← hW]; exact (Below.refl _ _).alloc (Nat.le_refl _) _
  have HZ0 : Hid (CellsAt W w.heap.size zM) := Lib.hid (by rw [← hW]; exact CellsAt.new w _ zM)
  have HS0 := Lib.hid (h.below hb0)
  have HF0 := Lib.hid (Foot.ofBelow [G] hb0)
  have HI0 := Lib.hid (SqI.start (fun o => nuO bs o 2) 6 (some 0))
  have HG := Lib.hid hG
  have HAD := Lib.hid had
  have hnu : (fun o => nuO bs o 2) none = none := rfl
  have HNU := Lib.hid hnu
  clear h hG had hb0 hnu
  go_enter Tryz.func80, Tryz.ntmps80
  go_upto_region 1 with fail
  try rw [hW]
  clear hW
  obtain ⟨Pr, hPr⟩ : ∃ Pr, w.heap.size = Pr := ⟨_, rfl⟩
  have HPR := Lib.hid hPr
  rw [hPr] at HZ0
  try rw [hPr]
  clear hPr
  go_wp2_with fail
  refine (numberS_2 HS0.out hbl).mono ?_
  rintro e' w1 ⟨id, rfl, hid, hs, hp, hf⟩
  have HS1 := Lib.hid hs
  have HF1 := Lib.hid (HF0.out.trans hf)
  have HZ1 := Lib.hid (HZ0.out.footc hf (by have h1 := HG.out; have h2 := HPR.out; simp only [List.mem_singleton]; omega))
  have HI1 : Hid (SqI (fun o => nuO bs o 2) 6 (some 0) 1 ((nuO bs (some 0) 2).map Prod.snd) [id]) := Lib.hid (HI0.out.next (by decide) HNU.out hp)
  generalize (nuO bs (some 0) 2).map Prod.snd = o1 at *
  clear hs hp hf HS0 HF0 HZ0 HI0
  go_wp2_with fail
  refine (numberS_2 HS1.out hbl).mono ?_
  rintro e' w2 ⟨fl, rfl, hfl, hs, hp, hf⟩
  have HS2 := Lib.hid hs
  have HF2 := Lib.hid (HF1.out.trans hf)
  have HZ2 := Lib.hid (HZ1.out.footc hf (by have h1 := HG.out; have h2 := HPR.out; simp only [List.mem_singleton]; omega))
  have HI2 : Hid (SqI (fun o => nuO bs o 2) 6 (some 0) (2 + 0) ((nuO bs o1 2).map Prod.snd) [id, fl]) := Lib.hid (HI1.out.next (by decide) HNU.out hp)
  generalize (nuO bs o1 2).map Prod.snd = o2 at *
  clear hs hp hf HS1 HF1 HZ1 HI1
  have HZM : Hid (CellsAt (w2.alloc (.cells zM.toArray 83)) w2.heap.size zM) := Lib.hid (CellsAt.new w2 _ zM)
  go_upto_region 2 with (first | refine build_msg2 rfl _ _ rfl rfl rfl ?_ | (have HZZ := HZM; refine store_msg HZZ rfl _ _ rfl rfl (vs := [.int .i64 (id : Int), .int .i64 (fl : Int), .slice none 0 0, .slice none 0 0, .slice none 0 0, .slice none 0 0]) rfl rfl rfl rfl (fun V HV HVC => ?_); clear HZM))
  have hbV : Below w2.heap.size w2 V := by rw [HV.out]; exact below_cells (Nat.le_refl _) _ _ _ ((Below.refl _ _).alloc (Nat.le_refl _) _)
  obtain ⟨Pm, hPm⟩ : ∃ Pm, w2.heap.size = Pm := ⟨_, rfl⟩
  go_upto_region 3 with fail
  obtain ⟨U, hU⟩ : ∃ U, V.alloc (.cells #[.int .i64 0, .int .i64 0, .int .i64 0, .int .i64 0] 201) = U := ⟨_, rfl⟩
  obtain ⟨A, hA⟩ : ∃ A, V.heap.size = A := ⟨_, rfl⟩
  have hbU : Below V.heap.size V U := by rw [← hU]; exact (Below.refl _ _).alloc (Nat.le_refl _) _
  have HM0 : Hid (MSt w G ad c bs Pr Pm A [.int .i64 (id : Int), .int .i64 (fl : Int), .slice none 0 0, .slice none 0 0, .slice none 0 0, .slice none 0 0] [.int .i64 ((0 : Nat) : Int), .int .i64 ((0 : Nat) : Int), .int .i64 ((0 : Nat) : Int), .int .i64 ((0 : Nat) : Int)] o2 U) := Lib.hid ⟨(HS2.out.below hbV).below hbU, (HF2.out.trans (Foot.ofBelow _ hbV)).trans (Foot.ofBelow _ hbU), (HZ2.out.below hbV).below hbU, (by rw [← hPm]; exact HVC.out.below hbU), (by rw [← hU, ← hA]; exact CellsAt.new V _ _), ⟨HG.out, by rw [HPR.out]; exact Nat.le_refl _, by rw [← hPm]; exact HZ2.out.lt, by rw [← hPm, ← hA]; exact HVC.out.lt⟩, HAD.out⟩
  have HOR : Hid (G < A ∧ Pm < A) := Lib.hid ⟨by have h1 := HM0.out.ord; omega, HM0.out.ord.2.2.2⟩
  try rw [hPm]
  try rw [hU]
  try rw [hA]
  clear hU hA hPm hbU hbV HV HVC HS2 HF2 HZ2
  go_wp2_with fail
  go_loopw [12] (fun s12 wr => ∃ (k c0 c1 c2 c3 : Nat) (o3 : Option Nat), s12 = .int .i64 (k : Int) ∧ k ≤ 4 ∧ (c0 ≤ 65535 ∧ c1 ≤ 65535 ∧ c2 ≤ 65535 ∧ c3 ≤ 65535) ∧ Hid (MSt w G ad c bs Pr Pm A [.int .i64 (id : Int), .int .i64 (fl : Int), .slice none 0 0, .slice none 0 0, .slice none 0 0, .slice none 0 0] [.int .i64 (c0 : Int), .int .i64 (c1 : Int), .int .i64 (c2 : Int), .int .i64 (c3 : Int)] o3 wr) ∧ Hid (SqI (fun o => nuO bs o 2) 6 (some 0) (2 + k) o3 ([id, fl, c0, c1, c2, c3].take (2 + k)))) (fun i _ => 4 - (intOf i).toNat)
  case atStart => exact ⟨0, 0, 0, 0, 0, o2, rfl, by decide, ⟨by decide, by decide, by decide, by decide⟩, HM0, HI2⟩
  case round =>
    clear HM0 HI2
    obtain ⟨k, c0, c1, c2, c3, o3, rfl, hk, ⟨hc0, hc1, hc2, hc3⟩, HM, HI⟩ := hrel
    by_cases hk4 : k < 4
    · obtain rfl | rfl | rfl | rfl : k = 0 ∨ k = 1 ∨ k = 2 ∨ k = 3 := by omega
      · go_wp2_with fail
        refine (numberS_2 HM.out.st hbl).mono ?_
        rintro e' wn ⟨v, rfl, hv, hs, hp, hf⟩
        have HM2 := Lib.hid (HM.out.call hs hf)
        have HI3 : Hid (SqI (fun o => nuO bs o 2) 6 (some 0) (2 + 1) ((nuO bs o3 2).map Prod.snd) ([id, fl, v, c1, c2, c3].take (2 + 1))) := Lib.hid (HI.out.next (by decide) HNU.out hp)
        generalize (nuO bs o3 2).map Prod.snd = o4 at *
        have xk := HM2.out.cnt.cell 0 _ rfl
        have fk := HM2.out.cnt.live 0 (by show 0 < 4; decide)
        have HM3 := Lib.hid (HM2.out.setA 0 (.int .i64 (v : Int)) (by show 0 < 4; decide))
        clear hs hp hf HM HI HM2
        go_wp2_with fail
        go_roundw
        case rel => exact ⟨1, v, c1, c2, c3, o4, by go_num, by decide, ⟨hv, hc1, hc2, hc3⟩, HM3, HI3⟩
        case measure => simp [intOf]
      · go_wp2_with fail
        refine (numberS_2 HM.out.st hbl).mono ?_
        rintro e' wn ⟨v, rfl, hv, hs, hp, hf⟩
        have HM2 := Lib.hid (HM.out.call hs hf)
        have HI3 : Hid (SqI (fun o => nuO bs o 2) 6 (some 0) (2 + 2) ((nuO bs o3 2).map Prod.snd) ([id, fl, c0, v, c2, c3].take (2 + 2))) := Lib.hid (HI.out.next (by decide) HNU.out hp)
        generalize (nuO bs o3 2).map Prod.snd = o4 at *
        have xk := HM2.out.cnt.cell 1 _ rfl
        have fk := HM2.out.cnt.live 1 (by show 1 < 4; decide)
        have HM3 := Lib.hid (HM2.out.setA 1 (.int .i64 (v : Int)) (by show 1 < 4; decide))
        clear hs hp hf HM HI HM2
        go_wp2_with fail
        go_roundw
        case rel => exact ⟨2, c0, v, c2, c3, o4, by go_num, by decide, ⟨hc0, hv, hc2, hc3⟩, HM3, HI3⟩
        case measure => simp [intOf]
      · go_wp2_with fail
        refine (numberS_2 HM.out.st hbl).mono ?_
        rintro e' wn ⟨v, rfl, hv, hs, hp, hf⟩
        have HM2 := Lib.hid (HM.out.call hs hf)
        have HI3 : Hid (SqI (fun o => nuO bs o 2) 6 (some 0) (2 + 3) ((nuO bs o3 2).map Prod.snd) ([id, fl, c0, c1, v, c3].take (2 + 3))) := Lib.hid (HI.out.next (by decide) HNU.out hp)
        generalize (nuO bs o3 2).map Prod.snd = o4 at *
        have xk := HM2.out.cnt.cell 2 _ rfl
        have fk := HM2.out.cnt.live 2 (by show 2 < 4; decide)
        have HM3 := Lib.hid (HM2.out.setA 2 (.int .i64 (v : Int)) (by show 2 < 4; decide))
        clear hs hp hf HM HI HM2
        go_wp2_with fail
        go_roundw
        case rel => exact ⟨3, c0, c1, v, c3, o4, by go_num, by decide, ⟨hc0, hc1, hv, hc3⟩, HM3, HI3⟩
        case measure => simp [intOf]
      · go_wp2_with fail
        refine (numberS_2 HM.out.st hbl).mono ?_
        rintro e' wn ⟨v, rfl, hv, hs, hp, hf⟩
        have HM2 := Lib.hid (HM.out.call hs hf)
        have HI3 : Hid (SqI (fun o => nuO bs o 2) 6 (some 0) (2 + 4) ((nuO bs o3 2).map Prod.snd) ([id, fl, c0, c1, c2, v].take (2 + 4))) := Lib.hid (HI.out.next (by decide) HNU.out hp)
        generalize (nuO bs o3 2).map Prod.snd = o4 at *
        have xk := HM2.out.cnt.cell 3 _ rfl
        have fk := HM2.out.cnt.live 3 (by show 3 < 4; decide)
        have HM3 := Lib.hid (HM2.out.setA 3 (.int .i64 (v : Int)) (by show 3 < 4; decide))
        clear hs hp hf HM HI HM2
        go_wp2_with fail
        go_roundw
        case rel => exact ⟨4, c0, c1, c2, v, o4, by go_num, by decide, ⟨hc0, hc1, hc2, hv⟩, HM3, HI3⟩
        case measure => simp [intOf]
    · obtain rfl : k = 4 := by omega
      have hd : decide (((4 : Nat) : Int) < 4) = false := by simp
      have HD0 := Lib.hid (show (sqO (fun o => nuO bs o 2) 6 (some 0)).map Prod.snd = o3 ∧ ∀ p, sqO (fun o => nuO bs o 2) 6 (some 0) = some p → [id, fl, c0, c1, c2, c3] = p.1 from HI.out.done)
      clear HI HNU
      go_wp2_with fail
      refine (ways_any _ G).mono ?_
      rintro e' ww ⟨M, R, B4, F4, B16, F16, rfl, hwa, hle, hbw⟩
      have HWA := Lib.hid hwa
      have hA1 := HM.out.cnt.lt
      have HOF : Hid (M ≠ G ∧ R ≠ G ∧ B4 ≠ G ∧ F4 ≠ G ∧ B16 ≠ G ∧ F16 ≠ G) := Lib.hid (by have h1 := HOR.out; omega)
      have HOP : Hid (M ≠ Pm ∧ R ≠ Pm ∧ B4 ≠ Pm ∧ F4 ≠ Pm ∧ B16 ≠ Pm ∧ F16 ≠ Pm) := Lib.hid (by have h1 := HOR.out; omega)
      replace HM := Lib.hid (HM.out.below hbw)
      clear hwa hle hbw hA1
      have xc0 := HM.out.cnt.cell 0 _ rfl
      go_wp2_with fail
      refine (asked_any9 HM.out.st c0 hc0 hbl (fun x hx hz => Nat.lt_of_lt_of_le (HAD.out x hx hz) HM.out.ft.size)).mono ?_
      rintro e' wr0 ⟨v0, D0, rfl, hrow, hs, hp, hl, hf⟩
      obtain ⟨x0, y0, hv0⟩ := own_slice (show wr0.ownsRow _ _ _ v0 _ _ from hrow)
      obtain ⟨l0, hl0⟩ : ∃ l, D0.length = l := ⟨_, rfl⟩
      rw [hl0] at hv0
      subst hv0
      clear hl0
      have HQ0 : Hid (RowQ wr0 (A + 1) (.slice x0 l0 y0) D0) := Lib.hid (own_lower8 hrow (by have h1 := HM.out.cnt.lt; omega))
      have HP0 := Lib.hid hp
      replace HWA := Lib.hid (HWA.out.keep hf (Off6.of HOF.out))
      replace HM := Lib.hid (HM.out.call hs hf)
      obtain ⟨o4, ho4⟩ : ∃ o4, (sqO (quO bs) c0 o3).map Prod.snd = o4 := ⟨_, rfl⟩
      rw [ho4] at HM
      have HOO4 := Lib.hid ho4
      have xm0 := HM.out.msg.cell 2 _ rfl
      have fm0 := HM.out.msg.live 2 (by show 2 < 6; decide)
      have HM2 := Lib.hid (HM.out.setM 2 (.slice x0 l0 y0) (by show 2 < 6; decide))
      have hfs := Foot.ofSet wr0 Pm 2 (.slice x0 l0 y0)
      replace HQ0 : Hid (RowQ (wr0.setCell ⟨Pm, 2, none⟩ (.slice x0 l0 y0)) (A + 1) (.slice x0 l0 y0) D0) := Lib.hid (own_foot1 HQ0.out hfs (by have h1 := HOR.out; omega))
      replace HWA := Lib.hid (HWA.out.keep hfs (Off6.of HOP.out))
      clear hrow hs hp hl hf hfs ho4 HM xc0
      go_upto_region 10 with fail
      obtain ⟨U0, hU0⟩ : ∃ U0, wr0.setCell ⟨Pm, 2, none⟩ (.slice x0 l0 y0) = U0 := ⟨_, rfl⟩
      rw [hU0] at HM2 HWA HQ0 ⊢
      clear hU0 xm0 fm0
      have HM := Lib.hid HM2.out
      clear HM2
      have xc1 := HM.out.cnt.cell 1 _ rfl
      go_wp2_with fail
      refine (records_any9 HM.out.st c1 hc1 hbl (fun x hx hz => Nat.lt_of_lt_of_le (HAD.out x hx hz) HM.out.ft.size) HWA.out HOF.out).mono ?_
      rintro e' wr1 ⟨v1, D1, rfl, hrow, hs, hp, hl, hf⟩
      obtain ⟨x1, y1, hv1⟩ := own_slice (show wr1.ownsRow _ _ _ v1 _ _ from hrow.1)
      obtain ⟨l1, hl1⟩ : ∃ l, D1.length = l := ⟨_, rfl⟩
      rw [hl1] at hv1
      subst hv1
      clear hl1
      have HQ1 : Hid (RowR wr1 (A + 1) (.slice x1 l1 y1) D1) := Lib.hid ⟨own_lower8 hrow.1 (by have h1 := HM.out.cnt.lt; omega), hrow.2⟩
      have HP1 := Lib.hid hp
      replace HQ0 : Hid (RowQ wr1 (A + 1) (.slice x0 l0 y0) D0) := Lib.hid (own_foot1 HQ0.out hf (by have h1 := HOR.out; omega))
      replace HWA := Lib.hid (HWA.out.keep hf (Off6.of HOF.out))
      replace HM := Lib.hid (HM.out.call hs hf)
      obtain ⟨o5, ho5⟩ : ∃ o5, (sqO (reO bs) c1 o4).map Prod.snd = o5 := ⟨_, rfl⟩
      rw [ho5] at HM
      have HOO5 := Lib.hid ho5
      have xm1 := HM.out.msg.cell 3 _ rfl
      have fm1 := HM.out.msg.live 3 (by show 3 < 6; decide)
      have HM2 := Lib.hid (HM.out.setM 3 (.slice x1 l1 y1) (by show 3 < 6; decide))
      have hfs := Foot.ofSet wr1 Pm 3 (.slice x1 l1 y1)
      replace HQ0 : Hid (RowQ (wr1.setCell ⟨Pm, 3, none⟩ (.slice x1 l1 y1)) (A + 1) (.slice x0 l0 y0) D0) := Lib.hid (own_foot1 HQ0.out hfs (by have h1 := HOR.out; omega))
      replace HQ1 : Hid (RowR (wr1.setCell ⟨Pm, 3, none⟩ (.slice x1 l1 y1)) (A + 1) (.slice x1 l1 y1) D1) := Lib.hid ⟨own_foot1 HQ1.out.1 hfs (by have h1 := HOR.out; omega), HQ1.out.2⟩
      replace HWA := Lib.hid (HWA.out.keep hfs (Off6.of HOP.out))
      clear hrow hs hp hl hf hfs ho5 HM xc1
      go_upto_region 11 with fail
      obtain ⟨U1, hU1⟩ : ∃ U1, wr1.setCell ⟨Pm, 3, none⟩ (.slice x1 l1 y1) = U1 := ⟨_, rfl⟩
      rw [hU1] at HM2 HWA HQ0 HQ1 ⊢
      clear hU1 xm1 fm1
      have HM := Lib.hid HM2.out
      clear HM2
      have xc2 := HM.out.cnt.cell 2 _ rfl
      go_wp2_with fail
      refine (records_any9 HM.out.st c2 hc2 hbl (fun x hx hz => Nat.lt_of_lt_of_le (HAD.out x hx hz) HM.out.ft.size) HWA.out HOF.out).mono ?_
      rintro e' wr2 ⟨v2, D2, rfl, hrow, hs, hp, hl, hf⟩
      obtain ⟨x2, y2, hv2⟩ := own_slice (show wr2.ownsRow _ _ _ v2 _ _ from hrow.1)
      obtain ⟨l2, hl2⟩ : ∃ l, D2.length = l := ⟨_, rfl⟩
      rw [hl2] at hv2
      subst hv2
      clear hl2
      have HQ2 : Hid (RowR wr2 (A + 1) (.slice x2 l2 y2) D2) := Lib.hid ⟨own_lower8 hrow.1 (by have h1 := HM.out.cnt.lt; omega), hrow.2⟩
      have HP2 := Lib.hid hp
      replace HQ0 : Hid (RowQ wr2 (A + 1) (.slice x0 l0 y0) D0) := Lib.hid (own_foot1 HQ0.out hf (by have h1 := HOR.out; omega))
      replace HQ1 : Hid (RowR wr2 (A + 1) (.slice x1 l1 y1) D1) := Lib.hid ⟨own_foot1 HQ1.out.1 hf (by have h1 := HOR.out; omega), HQ1.out.2⟩
      replace HWA := Lib.hid (HWA.out.keep hf (Off6.of HOF.out))
      replace HM := Lib.hid (HM.out.call hs hf)
      obtain ⟨o6, ho6⟩ : ∃ o6, (sqO (reO bs) c2 o5).map Prod.snd = o6 := ⟨_, rfl⟩
      rw [ho6] at HM
      have HOO6 := Lib.hid ho6
      have xm2 := HM.out.msg.cell 4 _ rfl
      have fm2 := HM.out.msg.live 4 (by show 4 < 6; decide)
      have HM2 := Lib.hid (HM.out.setM 4 (.slice x2 l2 y2) (by show 4 < 6; decide))
      have hfs := Foot.ofSet wr2 Pm 4 (.slice x2 l2 y2)
      replace HQ0 : Hid (RowQ (wr2.setCell ⟨Pm, 4, none⟩ (.slice x2 l2 y2)) (A + 1) (.slice x0 l0 y0) D0) := Lib.hid (own_foot1 HQ0.out hfs (by have h1 := HOR.out; omega))
      replace HQ1 : Hid (RowR (wr2.setCell ⟨Pm, 4, none⟩ (.slice x2 l2 y2)) (A + 1) (.slice x1 l1 y1) D1) := Lib.hid ⟨own_foot1 HQ1.out.1 hfs (by have h1 := HOR.out; omega), HQ1.out.2⟩
      replace HQ2 : Hid (RowR (wr2.setCell ⟨Pm, 4, none⟩ (.slice x2 l2 y2)) (A + 1) (.slice x2 l2 y2) D2) := Lib.hid ⟨own_foot1 HQ2.out.1 hfs (by have h1 := HOR.out; omega), HQ2.out.2⟩
      replace HWA := Lib.hid (HWA.out.keep hfs (Off6.of HOP.out))
      clear hrow hs hp hl hf hfs ho6 HM xc2
      go_upto_region 12 with fail
      obtain ⟨U2, hU2⟩ : ∃ U2, wr2.setCell ⟨Pm, 4, none⟩ (.slice x2 l2 y2) = U2 := ⟨_, rfl⟩
      rw [hU2] at HM2 HWA HQ0 HQ1 HQ2 ⊢
      clear hU2 xm2 fm2
      have HM := Lib.hid HM2.out
      clear HM2
      have xc3 := HM.out.cnt.cell 3 _ rfl
      go_wp2_with fail
      refine (records_any9 HM.out.st c3 hc3 hbl (fun x hx hz => Nat.lt_of_lt_of_le (HAD.out x hx hz) HM.out.ft.size) HWA.out HOF.out).mono ?_
      rintro e' wr3 ⟨v3, D3, rfl, hrow, hs, hp, hl, hf⟩
      obtain ⟨x3, y3, hv3⟩ := own_slice (show wr3.ownsRow _ _ _ v3 _ _ from hrow.1)
      obtain ⟨l3, hl3⟩ : ∃ l, D3.length = l := ⟨_, rfl⟩
      rw [hl3] at hv3
      subst hv3
      clear hl3
      have HQ3 : Hid (RowR wr3 (A + 1) (.slice x3 l3 y3) D3) := Lib.hid ⟨own_lower8 hrow.1 (by have h1 := HM.out.cnt.lt; omega), hrow.2⟩
      have HP3 := Lib.hid hp
      replace HQ0 : Hid (RowQ wr3 (A + 1) (.slice x0 l0 y0) D0) := Lib.hid (own_foot1 HQ0.out hf (by have h1 := HOR.out; omega))
      replace HQ1 : Hid (RowR wr3 (A + 1) (.slice x1 l1 y1) D1) := Lib.hid ⟨own_foot1 HQ1.out.1 hf (by have h1 := HOR.out; omega), HQ1.out.2⟩
      replace HQ2 : Hid (RowR wr3 (A + 1) (.slice x2 l2 y2) D2) := Lib.hid ⟨own_foot1 HQ2.out.1 hf (by have h1 := HOR.out; omega), HQ2.out.2⟩
      replace HWA := Lib.hid (HWA.out.keep hf (Off6.of HOF.out))
      replace HM := Lib.hid (HM.out.call hs hf)
      obtain ⟨o7, ho7⟩ : ∃ o7, (sqO (reO bs) c3 o6).map Prod.snd = o7 := ⟨_, rfl⟩
      rw [ho7] at HM
      have HOO7 := Lib.hid ho7
      have xm3 := HM.out.msg.cell 5 _ rfl
      have fm3 := HM.out.msg.live 5 (by show 5 < 6; decide)
      have HM2 := Lib.hid (HM.out.setM 5 (.slice x3 l3 y3) (by show 5 < 6; decide))
      have hfs := Foot.ofSet wr3 Pm 5 (.slice x3 l3 y3)
      replace HQ0 : Hid (RowQ (wr3.setCell ⟨Pm, 5, none⟩ (.slice x3 l3 y3)) (A + 1) (.slice x0 l0 y0) D0) := Lib.hid (own_foot1 HQ0.out hfs (by have h1 := HOR.out; omega))
      replace HQ1 : Hid (RowR (wr3.setCell ⟨Pm, 5, none⟩ (.slice x3 l3 y3)) (A + 1) (.slice x1 l1 y1) D1) := Lib.hid ⟨own_foot1 HQ1.out.1 hfs (by have h1 := HOR.out; omega), HQ1.out.2⟩
      replace HQ2 : Hid (RowR (wr3.setCell ⟨Pm, 5, none⟩ (.slice x3 l3 y3)) (A + 1) (.slice x2 l2 y2) D2) := Lib.hid ⟨own_foot1 HQ2.out.1 hfs (by have h1 := HOR.out; omega), HQ2.out.2⟩
      replace HQ3 : Hid (RowR (wr3.setCell ⟨Pm, 5, none⟩ (.slice x3 l3 y3)) (A + 1) (.slice x3 l3 y3) D3) := Lib.hid ⟨own_foot1 HQ3.out.1 hfs (by have h1 := HOR.out; omega), HQ3.out.2⟩
      replace HWA := Lib.hid (HWA.out.keep hfs (Off6.of HOP.out))
      clear hrow hs hp hl hf hfs ho7 HM xc3
      go_upto_region 13 with fail
      obtain ⟨U3, hU3⟩ : ∃ U3, wr3.setCell ⟨Pm, 5, none⟩ (.slice x3 l3 y3) = U3 := ⟨_, rfl⟩
      rw [hU3] at HM2 HWA HQ0 HQ1 HQ2 HQ3 ⊢
      clear hU3 xm3 fm3
      have HM := Lib.hid HM2.out
      clear HM2
      have HMG := Lib.hid (mg_chain HD0.out HOO4.out HP0.out HOO5.out HP1.out HOO6.out HP2.out HOO7.out HP3.out)
      clear HD0 HOO4 HOO5 HOO6 HOO7 HP0 HP1 HP2 HP3 HWA HOF HOP
      obtain ⟨a, e, hra, hae⟩ := HM.out.st.any
      have HAE := Lib.hid hae
      have HLE : Hid (a ≤ bs.length) := Lib.hid hra.le
      obtain ⟨N, hN⟩ : ∃ N, bs.length = N := ⟨_, rfl⟩
      have HN := Lib.hid hN
      have q0 := hra.cells.cell 0 _ rfl
      have q1 := hra.cells.cell 1 _ rfl
      rw [hN] at q0
      replace HM := Lib.hid (HM.out.below (Below.refl _ _).drew)
      replace HQ0 : Hid (RowQ U3.drew (A + 1) (.slice x0 l0 y0) D0) := Lib.hid (HQ0.out.below (Below.refl _ _).drew)
      replace HQ1 : Hid (RowR U3.drew (A + 1) (.slice x1 l1 y1) D1) := Lib.hid (HQ1.out.below (Below.refl _ _).drew)
      replace HQ2 : Hid (RowR U3.drew (A + 1) (.slice x2 l2 y2) D2) := Lib.hid (HQ2.out.below (Below.refl _ _).drew)
      replace HQ3 : Hid (RowR U3.drew (A + 1) (.slice x3 l3 y3) D3) := Lib.hid (HQ3.out.below (Below.refl _ _).drew)
      clear hra hae hN
      obtain ⟨S, hS⟩ : ∃ S : World → Prop, (fun V => V.cell? ⟨G, 0, none⟩ = some (.slice ad N c) ∧ V.cell? ⟨G, 1, none⟩ = some (.int .i64 (a : Int))) = S := ⟨_, rfl⟩
      have C0 : Hid (∀ V, S V → V.cell? ⟨G, 0, none⟩ = some (.slice ad N c)) := Lib.hid (fun V h => by rw [← hS] at h; exact h.1)
      have C1 : Hid (∀ V, S V → V.cell? ⟨G, 1, none⟩ = some (.int .i64 (a : Int))) := Lib.hid (fun V h => by rw [← hS] at h; exact h.2)
      have HSS : Hid (S U3.drew) := Lib.hid (by rw [← hS]; exact ⟨q0, q1⟩)
      clear hS q0 q1
      refine wp_region_noPanic ?_
      refine wp_region_held_drew (S := S) (by kernel_rfl) HSS.out (fun hHeld => ?_)
      clear HSS
      obtain ⟨X, hX⟩ : ∃ X, U3.drew = X := ⟨_, rfl⟩
      rw [hX] at HM HQ0 HQ1 HQ2 HQ3 hHeld ⊢
      clear hX
      refine tkT 0 ?_ rfl (Or.inl ⟨by rfl, ?_⟩) ?_
      rotate_left
      · (intro w hSw; go_simp; try (with_reducible rfl))
      try simp only [Act.put, pZ]
      refine tkT 1 ?_ rfl (Or.inl ⟨by rfl, ?_⟩) ?_
      rotate_left
      · (intro w hSw; go_simp; try (with_reducible rfl))
      try simp only [Act.put, pZ]
      refine tkT 2 ?_ rfl (Or.inl ⟨by rfl, ?_⟩) ?_
      rotate_left
      · (intro w hSw; go_simp; try (with_reducible rfl))
      try simp only [Act.put, pZ]
      refine tkT 3 ?_ rfl (Or.inl ⟨by rfl, ?_⟩) ?_
      rotate_left
      · (intro w hSw; have hc0 := C1.out w hSw; go_simp; try (with_reducible rfl))
      try simp only [Act.put, pZ]
      refine tkT 4 ?_ rfl (Or.inl ⟨by rfl, ?_⟩) ?_
      rotate_left
      · (intro w hSw; go_simp; try (with_reducible rfl))
      try simp only [Act.put, pZ]
      refine tkT 5 ?_ rfl (Or.inl ⟨by rfl, ?_⟩) ?_
      rotate_left
      · (intro w hSw; go_simp; try (with_reducible rfl))
      try simp only [Act.put, pZ]
      refine tkT 6 ?_ rfl (Or.inl ⟨by rfl, ?_⟩) ?_
      rotate_left
      · (intro w hSw; go_simp; try (with_reducible rfl))
      try simp only [Act.put, pZ]
      refine tkT 7 ?_ rfl (Or.inl ⟨by rfl, ?_⟩) ?_
      rotate_left
      · (intro w hSw; have hc0 := C0.out w hSw; go_simp; try (with_reducible rfl))
      try simp only [Act.put, pZ]
      refine tkT 8 ?_ rfl (Or.inl ⟨by rfl, ?_⟩) ?_
      rotate_left
      · (intro w hSw; go_simp; try (with_reducible rfl))
      try simp only [Act.put, pZ]
      refine tkT 9 ?_ rfl (Or.inl ⟨by rfl, ?_⟩) ?_
      rotate_left
      · (intro w hSw; go_simp; try (with_reducible rfl))
      try simp only [Act.put, pZ]
      refine wpAnyH_done (by kernel_rfl) ?_ _
      refine NoPanic.normal ?_
      clear C0 C1 hHeld
      have hone : [Value.int .i64 (id : Int), .int .i64 (fl : Int), .slice x0 l0 y0, .slice x1 l1 y1, .slice x2 l2 y2, .slice x3 l3 y3].all (fun u => u.oneCell') = true := rfl
      by_cases ha : a = N
      · have hda : ((a : Int) != (N : Int)) = false := by rw [ha]; simp
        have HPC : Hid (CellsAt X Pm [.int .i64 (id : Int), .int .i64 (fl : Int), .slice x0 l0 y0, .slice x1 l1 y1, .slice x2 l2 y2, .slice x3 l3 y3]) := Lib.hid HM.out.msg
        have HZ := Lib.hid HM.out.res
        go_wp2_with (first | refine load_msg HPC rfl _ rfl rfl rfl ?_ | (have HZZ := HZ; refine store_msg HZZ rfl _ _ rfl rfl rfl rfl rfl hone (fun V HV HVC => ?_); clear HZ))
        refine bodyPost_ret (results_msg Tryz.results80 rfl HVC.out rfl) rfl ?_
        have hf := Foot.ofCells X Pr 0 [Value.int .i64 (id : Int), .int .i64 (fl : Int), .slice x0 l0 y0, .slice x1 l1 y1, .slice x2 l2 y2, .slice x3 l3 y3]
        rw [← HV.out] at hf
        obtain ⟨k1, k2⟩ := HM.out.footF hf (by have h1 := HM.out.ord; omega)
        have hPA : Pr < A + 1 := by have h1 := HM.out.ord; omega
        have r0 : RowQ V (A + 1) (.slice x0 l0 y0) D0 := own_foot1 HQ0.out hf hPA
        have r1 : RowR V (A + 1) (.slice x1 l1 y1) D1 := ⟨own_foot1 HQ1.out.1 hf hPA, HQ1.out.2⟩
        have r2 : RowR V (A + 1) (.slice x2 l2 y2) D2 := ⟨own_foot1 HQ2.out.1 hf hPA, HQ2.out.2⟩
        have r3 : RowR V (A + 1) (.slice x3 l3 y3) D3 := ⟨own_foot1 HQ3.out.1 hf hPA, HQ3.out.2⟩
        refine ⟨o7, k1, k2, ?_⟩
        rcases HAE.out with ⟨ho, he⟩ | ⟨ho, he⟩
        · have hm := HMG.out.1 (by rw [ho, ha, HN.out])
          have g := mgP_is hm
          obtain ⟨bq, dq, z0, i0⟩ := RowQ.qus r0 g.2.2.2.1
          obtain ⟨b1, d1, z1, i1⟩ := RowR.recs r1 g.2.2.2.2.1
          obtain ⟨b2, d2, z2, i2⟩ := RowR.recs r2 g.2.2.2.2.2.1
          obtain ⟨b3, d3, z3, i3⟩ := RowR.recs r3 g.2.2.2.2.2.2
          rw [z0] at r0
          rw [z1] at r1
          rw [z2] at r2
          rw [z3] at r3
          have hWA : w.heap.size ≤ A + 1 := by have h1 := HM.out.ord; omega
          refine .inr ⟨a, _, bq, b1, b2, b3, dq, d1, d2, d3, ho, hm, ?_, ⟨i0, i1, i2, i3⟩, fun x hx => ?_⟩
          · unfold msgV
            rw [z0, z1, z2, z3]
          · rcases hx with rfl | rfl | rfl | rfl
            · exact Nat.le_trans hWA (r0.lt _ rfl).1
            · exact Nat.le_trans hWA (r1.1.lt _ rfl).1
            · exact Nat.le_trans hWA (r2.1.lt _ rfl).1
            · exact Nat.le_trans hWA (r3.1.lt _ rfl).1
        · exact .inl ⟨ho, HMG.out.2 (by rw [ho]; exact fun h => by cases h), _, rfl, hone, rfl⟩
      · have hda : ((a : Int) != (N : Int)) = true := by simp; omega
        have hmn : mgP bs = none := HMG.out.2 (fun h => by
          rcases HAE.out with ⟨ho, he⟩ | ⟨ho, he⟩
          · rw [ho, HN.out] at h
            injection h with h
            exact ha h
          · rw [ho] at h; cases h)
        have HMN := Lib.hid hmn
        clear hmn
        go_wp2_with fail
        refine (failS_any HM.out.st).mono ?_
        rintro e' wz ⟨rfl, h1, h2⟩
        replace HM := Lib.hid (HM.out.call h1 h2)
        clear h1 h2
        have HPC : Hid (CellsAt wz Pm [.int .i64 (id : Int), .int .i64 (fl : Int), .slice x0 l0 y0, .slice x1 l1 y1, .slice x2 l2 y2, .slice x3 l3 y3]) := Lib.hid HM.out.msg
        have HZ := Lib.hid HM.out.res
        go_wp2_with (first | refine load_msg HPC rfl _ rfl rfl rfl ?_ | (have HZZ := HZ; refine store_msg HZZ rfl _ _ rfl rfl rfl rfl rfl hone (fun V HV HVC => ?_); clear HZ))
        refine bodyPost_ret (results_msg Tryz.results80 rfl HVC.out rfl) rfl ?_
        have hf := Foot.ofCells wz Pr 0 [Value.int .i64 (id : Int), .int .i64 (fl : Int), .slice x0 l0 y0, .slice x1 l1 y1, .slice x2 l2 y2, .slice x3 l3 y3]
        rw [← HV.out] at hf
        obtain ⟨k1, k2⟩ := HM.out.footF hf (by have h1 := HM.out.ord; omega)
        exact ⟨none, k1, k2, .inl ⟨rfl, HMN.out, _, rfl, hone, rfl⟩⟩
end Go.Proofs.YtedmkdjijhflnaaGreat
namespace Go.Proofs.YtedmkdjijhflnaaGreat
open Go.RowKit

theorem rd_size : (Tryz.prog.info? 177).map (·.size) = some 3 := by kernel_rfl
theorem store_rd {ops : Array Oper} {rest : List Oper} {op : Oper} {a : Act} {w : World} {Q : Exit → Act → World → Prop} {G : Nat} {us vs : List Value} (hA : Hid (CellsAt w G us)) (hu : us.length = 3) (x y : Operand) (hgd : op.guard = none) (ho : op.op = .store 177 x y)
    (hx : a.eval x = .pointer (some ⟨G, 0, none⟩)) (hy : a.eval y = .agg vs.toArray) (hl : vs.length = 3) (h1 : vs.all (fun u => u.oneCell') = true) (h : ∀ W, Hid (W = w.setCells G 0 vs) → Hid (CellsAt W G vs) → wpList Tryz.prog ops Q rest (a.put op.dst undef) W) : wpList Tryz.prog ops Q (op :: rest) a w :=
  wpList_store_mid hgd 177 x y ho G 0 vs.toArray hx hy (by rw [List.size_toArray, hl, ← hu]; exact hA.out.there) (by rw [rd_size, List.size_toArray, hl]) (all_oneCell_toArray (List.all_eq_true.1 h1)) (h _ (Lib.hid rfl) (Lib.hid (hA.out.stored vs (hl.trans hu.symm))))
theorem build_rd {ops : Array Oper} {rest : List Oper} {op : Oper} {a : Act} {w : World} {Q : Exit → Act → World → Prop} {ad : Option Addr} {n c : Nat} (hg : op.guard = none) (x0 : Operand) (ho : op.op = .build 177 #[(0, x0)])
    (h0 : a.eval x0 = .slice ad n c) (h : wpList Tryz.prog ops Q rest (a.put op.dst (.agg #[.slice ad n c, .int .i64 0, .int .i64 0])) w) : wpList Tryz.prog ops Q (op :: rest) a w := by
  have e0 : Tryz.prog.built 177 [(0, .slice ad n c)] = some #[.slice ad n c, .int .i64 0, .int .i64 0] := rfl
  have e : Tryz.prog.built 177 ((#[(0, x0)] : Array (Nat × Operand)).map fun (i, x) => (i, a.eval x)).toList = some #[.slice ad n c, .int .i64 0, .int .i64 0] := by
    simp only [List.map_toArray, List.map_cons, List.map_nil]
    rw [h0]; exact e0
  refine wpList_build hg 177 _ ho (by rw [e]; rfl) ?_
  rw [e]
  exact h
theorem build_msg0 {ops : Array Oper} {rest : List Oper} {op : Oper} {a : Act} {w : World} {Q : Exit → Act → World → Prop} (hg : op.guard = none) (ho : op.op = .build 83 #[]) (h : wpList Tryz.prog ops Q rest (a.put op.dst (.agg zM.toArray)) w) : wpList Tryz.prog ops Q (op :: rest) a w := by
  have e0 : Tryz.prog.built 83 [] = some zM.toArray := rfl
  have e : Tryz.prog.built 83 ((#[] : Array (Nat × Operand)).map fun (i, x) => (i, a.eval x)).toList = some zM.toArray := by
    simp only [List.map_toArray, List.map_nil]
    exact e0
  refine wpList_build hg 83 _ ho (by rw [e]; rfl) ?_
  rw [e]
  exact h
def ReadRet (w : World) (bs : List UInt8) (e' : Ending) (w' : World) : Prop :=
  Below w.heap.size w w' ∧ (((bs.length ≤ 1232 → mgP bs = none) ∧ ∃ e : Int, e ≠ 0 ∧ e' = .returned (.tuple #[.agg zM.toArray, .int .i64 e])) ∨
    (bs.length ≤ 1232 ∧ ∃ m bq b1 b2 b3 dq d1 d2 d3, mgP bs = some m ∧ e' = .returned (.tuple #[msgV m bq b1 b2 b3 dq d1 d2 d3, .int .i64 0]) ∧ MsgIn w' m bq b1 b2 b3 dq d1 d2 d3))
set_option maxRecDepth 100000 in
set_option maxHeartbeats 4000000 in
theorem read9L_any {w : World} {ad : Option Addr} {c : Nat} {bs : List UInt8} (hB : BytesIn2 w ad c bs) (had : ∀ x, ad = some x → bs.length ≠ 0 → x.block < w.heap.size) :
    Calls Tryz.prog 43 #[.slice ad bs.length c] w (ReadRet w bs) := by
  obtain ⟨W, hW⟩ : ∃ W, w.alloc (.cells #[.int .i64 0, .int .i64 0, .slice none 0 0, .slice none 0 0, .slice none 0 0, .slice none 0 0] 83) = W := ⟨_, rfl⟩
  have hb0 : Below w.heap.size w W := by rw [← hW]; exact (Below.refl _ _).alloc (Nat.le_refl _) _
  have HZ : Hid (CellsAt W w.heap.size zM) := Lib.hid (by rw [← hW]; exact CellsAt.new w _ zM)
  have HB0 := Lib.hid hb0
  have HBI := Lib.hid (hB.below hb0)
  have HAD := Lib.hid had
  obtain ⟨N, hN⟩ : ∃ N, bs.length = N := ⟨_, rfl⟩
  have HN := Lib.hid hN
  rw [hN]
  clear hB hb0 had hN
  by_cases hl : 1232 < N
  · have hd : decide ((1232 : Int) < (N : Int)) = true := decide_eq_true (by omega)
    have hdn : decide (1232 < N) = true := decide_eq_true hl
    have HL : Hid (bs.length ≤ 1232 → mgP bs = none) := Lib.hid (fun h => by rw [HN.out] at h; omega)
    go_enter Tryz.func43, Tryz.ntmps43
    go_upto_region 1 with fail
    try rw [hW]
    clear hW
    clear hl
    go_wp2_with (first | refine build_msg0 rfl rfl ?_ | (have HZZ := HZ; refine store_msg HZZ rfl _ _ rfl rfl rfl rfl rfl rfl (fun V HV HVC => ?_); clear HZ))
    refine bodyPost_ret (results_msg2 Tryz.results43 rfl HVC.out rfl) rfl ⟨?_, .inl ⟨HL.out, 3, by decide, rfl⟩⟩
    rw [HV.out]
    exact below_cells (Nat.le_refl _) _ _ _ HB0.out
  · have hd : decide ((1232 : Int) < (N : Int)) = false := decide_eq_false (by omega)
    have hdn : decide (1232 < N) = false := decide_eq_false hl
    have HL : Hid (bs.length ≤ 1232) := Lib.hid (by rw [HN.out]; omega)
    have HBL : Hid (bs.length ≤ 100000) := Lib.hid (Nat.le_trans HL.out (by decide))
    clear hl
    go_enter Tryz.func43, Tryz.ntmps43
    go_upto_region 1 with fail
    try rw [hW]
    clear hW
    obtain ⟨Pr, hPr⟩ : ∃ Pr, w.heap.size = Pr := ⟨_, rfl⟩
    have HPR := Lib.hid hPr
    rw [hPr] at HZ
    try rw [hPr]
    clear hPr
    have HZR : Hid (CellsAt (W.alloc (.cells #[.slice none 0 0, .int .i64 0, .int .i64 0] 177)) W.heap.size [.slice none 0 0, .int .i64 0, .int .i64 0]) := Lib.hid (CellsAt.new W _ [.slice none 0 0, .int .i64 0, .int .i64 0])
    go_upto_region 4 with (first | refine build_rd rfl _ rfl rfl ?_ | (have HZZ := HZR; refine store_rd HZZ rfl _ _ rfl rfl (vs := [.slice ad N c, .int .i64 0, .int .i64 0]) rfl rfl rfl rfl (fun V HV HVC => ?_); clear HZR))
    have hbV : Below W.heap.size W V := by rw [HV.out]; exact below_cells (Nat.le_refl _) _ _ _ ((Below.refl _ _).alloc (Nat.le_refl _) _)
    obtain ⟨G, hG⟩ : ∃ G, W.heap.size = G := ⟨_, rfl⟩
    have HGO : Hid (Pr < G ∧ w.heap.size ≤ G) := Lib.hid ⟨by rw [← hG]; exact HZ.out.lt, by rw [← hG]; exact HB0.out.size⟩
    have HRS : Hid (RdS V G ad c bs (some 0)) := Lib.hid (show RdAt V G ad c bs 0 0 from ⟨by rw [← hG, HN.out]; exact HVC.out, HBI.out.below hbV, fun x hx hz => by have := HAD.out x hx hz; have := HGO.out.2; omega, Nat.zero_le _⟩)
    have HMS := Lib.hid (message_any9 HRS.out HBL.out (fun x hx hz => Nat.lt_of_lt_of_le (HAD.out x hx hz) (by have h1 := HB0.out.size; have h2 := hbV.size; omega)))
    replace HZ := Lib.hid (HZ.out.below hbV)
    replace HB0 := Lib.hid (chain HB0.out hbV)
    have HVZ : Hid (G < V.heap.size) := Lib.hid (by rw [← hG]; exact HVC.out.lt)
    try rw [hG]
    clear hG hbV HV HZZ HVC HRS HBI
    go_wp2_with fail
    refine HMS.out.mono ?_
    rintro e' w1 ⟨o', hs, hf, hor⟩
    have HZ1 := Lib.hid (HZ.out.footc hf (by have h1 := HGO.out.1; simp only [List.mem_singleton]; omega))
    have HB1 : Hid (Below w.heap.size w w1) := Lib.hid (HBT HB0.out (Below.refl _ _) hf HGO.out.2)
    clear HZ HB0 HMS hf
    rcases hor with ⟨rfl, hm, vs, lvs, ovs, rfl⟩ | ⟨a, m, bq, b1, b2, b3, dq, d1, d2, d3, rfl, hm, rfl, hmi, hbk⟩
    · obtain ⟨a, e, he, hra⟩ := hs
      have HRA := Lib.hid hra
      have HM := Lib.hid hm
      have HZM : Hid (CellsAt (w1.alloc (.cells zM.toArray 83)) w1.heap.size zM) := Lib.hid (CellsAt.new w1 _ zM)
      clear hra hm
      go_upto_region 5 with (have HZZ := HZM; refine store_msg HZZ rfl _ _ rfl rfl rfl rfl lvs ovs (fun V1 HV1 HVC1 => ?_); clear HZM)
      have hbV : Below w1.heap.size w1 V1 := by rw [HV1.out]; exact below_cells (Nat.le_refl _) _ _ _ ((Below.refl _ _).alloc (Nat.le_refl _) _)
      have HR2 := Lib.hid (HRA.out.below hbV)
      have HZ2 := Lib.hid (HZ1.out.below hbV)
      have HB2 := Lib.hid (chain HB1.out hbV)
      have x2 := HR2.out.cells.cell 2 _ rfl
      have hne : (e != 0) = true := by simpa using he
      have HE := Lib.hid he
      clear hbV HV1 HVC1 HRA HZ1 HB1 HZZ he
      go_upto_region 6 with fail
      replace HR2 := Lib.hid (HR2.out.below (Below.refl _ _).drew)
      replace HZ2 := Lib.hid (HZ2.out.below (Below.refl _ _).drew)
      replace HB2 := Lib.hid HB2.out.drew
      clear x2
      obtain ⟨S, hS⟩ : ∃ S : World → Prop, (fun V : World => V.cell? ⟨G, 2, none⟩ = some (Value.int .i64 e)) = S := ⟨_, rfl⟩
      have CE : Hid (∀ V : World, S V → V.cell? ⟨G, 2, none⟩ = some (Value.int .i64 e)) := Lib.hid (fun V h => by rw [← hS] at h; exact h)
      have HSX : Hid (∀ V : World, V.cell? ⟨G, 2, none⟩ = some (Value.int .i64 e) → S V) := Lib.hid (fun V h => by rw [← hS]; exact h)
      clear hS
      refine wp_region_noPanic ?_
      refine wp_region_held_drew (S := S) (by kernel_rfl) (HSX.out _ (HR2.out.cells.cell 2 _ rfl)) (fun hHeld => ?_)
      obtain ⟨X, hX⟩ : ∃ X, V1.drew = X := ⟨_, rfl⟩
      rw [hX] at HR2 HZ2 HB2 hHeld ⊢
      clear hX
      refine tkT 0 ?_ rfl (Or.inl ⟨by rfl, ?_⟩) ?_
      rotate_left
      · (intro w hSw; go_simp; try (with_reducible rfl))
      try simp only [Act.put, pZ]
      refine tkT 1 ?_ rfl (Or.inl ⟨by rfl, ?_⟩) ?_
      rotate_left
      · (intro w hSw; go_simp; try (with_reducible rfl))
      try simp only [Act.put, pZ]
      refine tkT 2 ?_ rfl (Or.inl ⟨by rfl, ?_⟩) ?_
      rotate_left
      · (intro w hSw; have hc0 := CE.out w hSw; go_simp; try (with_reducible rfl))
      try simp only [Act.put, pZ]
      refine wpAnyH_ready (rs := [3]) (by kernel_rfl) (by simp) ?_
      refine ready_one rfl rfl (fun K hK => ?_)
      refine wp_store_msg HZ2 rfl _ _ rfl rfl (vs := zM) rfl rfl rfl (fun V HV HVC => ?_)
      have HB3 : Hid (Below w.heap.size w V) := Lib.hid (by rw [HV.out]; exact below_cells (by rw [HPR.out]; exact Nat.le_refl _) _ _ _ HB2.out)
      refine hK.out _ _ (HSX.out _ (by rw [HV.out]; have h1 := HR2.out.cells.apart (G' := Pr) (o := 0) (by have h2 := HGO.out.1; omega) zM; exact h1.cell 2 _ rfl)) (fun hHeldz => ?_)
      clear hK K
      try simp only [Act.put, List.getElem_toArray, List.getElem_cons_zero, List.getElem_cons_succ]
      refine tkT 4 ?_ rfl (Or.inl ⟨by rfl, ?_⟩) ?_
      rotate_left
      · (intro w hSw; go_simp; try (with_reducible rfl))
      try simp only [Act.put, pZ]
      refine wpAnyH_done (by kernel_rfl) ?_ _
      refine NoPanic.normal ?_
      go_wp2_with fail
      exact bodyPost_ret (results_msg2 Tryz.results43 rfl HVC.out rfl) rfl ⟨HB3.out, .inl ⟨fun _ => HM.out, e, HE.out, rfl⟩⟩
    · have HRA : Hid (RdAt w1 G ad c bs a 0) := Lib.hid hs
      have HM := Lib.hid hm
      have HMI := Lib.hid hmi
      have HBK : Hid (∀ x, bq = some x ∨ b1 = some x ∨ b2 = some x ∨ b3 = some x → x.block ≠ Pr) := Lib.hid (fun x hx e => by have h1 := hbk x hx; have h2 := HVZ.out; have h3 := HGO.out.1; omega)
      have HZM : Hid (CellsAt (w1.alloc (.cells zM.toArray 83)) w1.heap.size zM) := Lib.hid (CellsAt.new w1 _ zM)
      clear hs hm hmi hbk
      obtain ⟨vs, hvs, lvs, ovs⟩ := msg_row m bq b1 b2 b3 dq d1 d2 d3
      have HVS := Lib.hid hvs
      rw [hvs]
      clear hvs
      go_upto_region 5 with (have HZZ := HZM; refine store_msg HZZ rfl _ _ rfl rfl rfl rfl lvs ovs (fun V1 HV1 HVC1 => ?_); clear HZM)
      have hbV : Below w1.heap.size w1 V1 := by rw [HV1.out]; exact below_cells (Nat.le_refl _) _ _ _ ((Below.refl _ _).alloc (Nat.le_refl _) _)
      have HR2 := Lib.hid (HRA.out.below hbV)
      have HZ2 := Lib.hid (HZ1.out.below hbV)
      have HB2 := Lib.hid (chain HB1.out hbV)
      have HMI2 := Lib.hid (HMI.out.below hbV)
      have x2 := HR2.out.cells.cell 2 _ rfl
      have hne : ((0 : Int) != 0) = false := rfl
      have HPC := Lib.hid HVC1.out
      obtain ⟨Pm, hPm⟩ : ∃ Pm, w1.heap.size = Pm := ⟨_, rfl⟩
      rw [hPm] at HPC
      try rw [hPm]
      clear hbV HV1 HVC1 HRA HZ1 HB1 HZZ HMI hPm
      go_wp2_with (first | refine load_msg HPC lvs _ rfl rfl rfl ?_ | (have HZZ := HZ2; refine store_msg HZZ rfl _ _ rfl rfl rfl rfl lvs ovs (fun V HV HVC => ?_); clear HZ2))
      refine bodyPost_ret (results_msg2 Tryz.results43 rfl HVC.out lvs) rfl ⟨?_, .inr ⟨HL.out, m, bq, b1, b2, b3, dq, d1, d2, d3, HM.out, ?_, ?_⟩⟩
      · rw [HV.out]
        exact below_cells (by rw [HPR.out]; exact Nat.le_refl _) _ _ _ HB2.out
      · rw [HVS.out]
        rfl
      · rw [HV.out]
        exact ⟨HMI2.out.qs.apart (fun x hx => HBK.out x (.inl hx)) _ _, HMI2.out.an.apart (fun x hx => HBK.out x (.inr (.inl hx))) _ _, HMI2.out.au.apart (fun x hx => HBK.out x (.inr (.inr (.inl hx)))) _ _, HMI2.out.mo.apart (fun x hx => HBK.out x (.inr (.inr (.inr hx)))) _ _⟩
end Go.Proofs.YtedmkdjijhflnaaGreat
namespace Go.Proofs.YtedmkdjijhflnaaGreat
open Go.RowKit

structure Keep (n : Nat) (M : List Nat) (A B : World) : Prop where
  os : B.os = A.os
  tape : B.tape = A.tape
  output : B.output = A.output
  size : A.heap.size ≤ B.heap.size
  keep : ∀ j, j < n → j ∉ M → B.heap[j]? = A.heap[j]?
section
variable {P : Program} {α : Type} {ops : Array Oper} {Q : Exit → Act → World → Prop}
theorem Keep.trans {n : Nat} {M : List Nat} {A B C : World} (h : Keep n M A B) (k : Keep n M B C) : Keep n M A C := ⟨k.os.trans h.os, k.tape.trans h.tape, k.output.trans h.output, Nat.le_trans h.size k.size, fun j h1 h2 => (k.keep j h1 h2).trans (h.keep j h1 h2)⟩
theorem Keep.ofBelow {n : Nat} (M : List Nat) {A B : World} {m : Nat} (h : Below m A B) (hn : n ≤ m) : Keep n M A B := ⟨h.os, h.tape, h.output, h.size, fun j h1 _ => h.block j (by omega)⟩
theorem Keep.cell {n : Nat} {M : List Nat} {A B : World} (h : Keep n M A B) {g o : Nat} (h1 : g < n) (h2 : g ∉ M) : B.cell? ⟨g, o, none⟩ = A.cell? ⟨g, o, none⟩ := World.cell?_of_block (w := A) (a := ⟨g, o, none⟩) (h.keep g h1 h2)
theorem op_wide {o : Oper} {a : Act} {w : World} {K : Act → World → Prop} {Q' : Exit → Act → World → Prop} (hd : ∀ c, o.op ≠ .defer c) (hq : ∀ e a w, Q' e a w → e = .normal) (h : o.wp P a w K Q' ∨ (o.asks P a w ∧ LetsOut Q')) : o.wpIn Fence.wide 0 P a w K Q := by
  have hno : ¬ LetsOut Q' := fun ⟨a, w, h⟩ => by have := hq _ _ _ h; cases this
  rcases h with h | ⟨_, h⟩
  · refine ⟨fun _ _ => trivial, ?_⟩
    rw [show o.semAt Fence.wide.round a.eval = execOp a.eval o from Oper.semAt_eq _ _ _ hd]
    unfold Oper.wp at h
    generalize (execOp a.eval o).run P w = x at *
    cases x with
    | ok y w' =>
      cases y with
      | enter f args =>
        simp only [Oper.upon, Oper.uponIn] at h ⊢
        refine ⟨(fun h => by cases h), callsIn_wide.2 (h.mono fun e w'' he => ?_)⟩
        cases e with
        | returned v => exact he
        | panicked c => have := hq _ _ _ he; cases this
        | outgrown => exact (hno he).elim
      | row r args =>
        simp only [Oper.upon, Oper.uponIn] at h ⊢
        refine ⟨(fun h => by cases h), fun c cs _ => ?_⟩
        obtain ⟨v, w', hr, hs⟩ := h c cs
        exact ⟨v, w', hr, stepsIn_wide.2 hs⟩
      | _ => simp only [Oper.upon, Oper.uponIn] at h ⊢ <;> first | exact h | exact h.elim
    | halt y w' =>
      cases y with
      | panic v => have := hq _ _ _ h; cases this
      | _ => simp only [Oper.upon] at h
  · exact absurd h hno
theorem list_split {l2 : List Oper} : ∀ (l1 : List Oper) (a : Act) (w : World), (∀ o ∈ l1, ∀ c, o.op ≠ .defer c) → wpList P ops (fun e a w => e = .normal ∧ wpListIn Fence.wide 0 P ops Q l2 a w) l1 a w → wpListIn Fence.wide 0 P ops Q (l1 ++ l2) a w
  | [], _, _, _, h => h.2
  | o :: l, a, w, hd, h => by
    rw [List.cons_append]
    unfold wpListIn
    unfold wpList at h
    split
    · rename_i hw
      rw [if_pos hw] at h
      exact Oper.wpIn_mono (fun a w h => list_split l a w (fun o ho => hd o (List.mem_cons_of_mem _ ho)) h) (op_wide (hd o (by simp)) (fun e a w h => h.1) h)
    · rename_i hw
      rw [if_neg hw] at h
      exact ⟨fun _ _ => trivial, list_split l _ w (fun o ho => hd o (List.mem_cons_of_mem _ ho)) h⟩
def RestIn (P : Program) (ops : Array Oper) (Q : Exit → Act → World → Prop) (l : List Oper) (a : Act) (w : World) : Prop := wpListIn Fence.wide 0 P ops Q l a w
theorem restIn {l : List Oper} {a : Act} {w : World} (h : wpListIn Fence.wide 0 P ops Q l a w) : RestIn P ops Q l a w := h
theorem region_split {id : Nat} {l : List Oper} (n : Nat) {a : Act} {w : World} (hd : noDefer (l.take n) = true) (h : wpList P l.toArray (fun e a w => e = .normal ∧ RestIn P l.toArray Q (l.drop n) a w) (l.take n) a w) : (Code.region id l.toArray false).wp P Q a w := by
  refine (wpIn_wide (n := 0)).1 (wpIn_region_lit ?_)
  have := list_split (l2 := l.drop n) (l.take n) a w (noDefer_spec hd) h
  rwa [List.take_append_drop] at this
def TellsG (P : Program) (gf : Nat) (lb : Array Value) (xs : List α) (enc : α → Value) (M : List Nat) (w : World) : Prop :=
  ∀ (l : Nat) (J : Nat → World → Prop) (X : World → Prop) (W : World), Below w.heap.size w W → (∀ k A B, J k A → Below A.heap.size A B → J k B) → (∀ A B, X A → Below A.heap.size A B → X B) →
    (∀ k (hk : k < xs.length) W1, J k W1 → YieldAt Fence.wide 0 P l #[enc xs[k]] W1 fun e W' => (e = .returned (.bool true) ∧ J (k + 1) W' ∧ Keep w.heap.size M W1 W') ∨ (e = .returned (.bool false) ∧ X W')) → J 0 W →
    CallsIn Fence.wide 0 P gf (#[.func (.yield l) #[] #[]] ++ lb) W fun e W' => (∃ v, e = .returned v) ∧ (J xs.length W' ∨ X W')
theorem range_go {g : Operand} {p : Tmp} {assign body : Code} {a : Act} {w : World} {gf : Nat} {lb : Array Value} (hg : a.eval g = .func (.func gf) #[] lb) (eg : ∀ args w, (callFunc gf args).run P w = .ok (.enter gf args) w)
    (xs : List α) (enc : α → Value) (M : List Nat) (hM : ∀ k ∈ M, k < w.heap.size) (w0 : World) (hseq : TellsG P gf lb xs enc M w0) (hb0 : Below w0.heap.size w0 w)
    (I : Nat → World → Prop) (hI : ∀ k A B, I k A → (∃ l o, w.heap.size ≤ l ∧ l < w.heap.size + 2 ∧ B = A.putObj l o) ∨ Below A.heap.size A B → I k B) (h0 : I 0 w)
    (hround : ∀ k (hk : k < xs.length) W, w.heap.size + 1 < W.heap.size → I k W →
      assign.wpIn (Fence.wide.inRound (w.heap.size + 1)) 0 P (Exit.then (fun a₁ w₁ => Below W.heap.size W w₁ ∧ ∀ w₂, Foot [w.heap.size + 1] [w.heap.size + 1] w₁ w₂ → I k w₂ → body.wpIn (Fence.wide.inRound (w.heap.size + 1)) 0 P (fun e _ W3 => e = .normal ∧ Keep (w.heap.size + 2) M w₂ W3 ∧ I (k + 1) W3) a₁ w₂) (fun _ _ _ => False))
        { tmps := a.tmps.setIfInBounds p (enc xs[k]), defers := [] } W)
    (hdone : ∀ W, I xs.length W → W.heap[w.heap.size]? = some (.deferred (some [])) → Q .normal { a with defers := [{ target := .collected w.heap.size, args := #[] }] ++ a.defers } W) :
    (Code.rangeFunc g #[p] assign body).wp P Q a w := by
  refine enter_law hg eg fun fn W1 hb1 hL1 hK1 => ?_
  obtain ⟨l, hl⟩ : ∃ l, w.heap.size + 1 = l := ⟨_, rfl⟩
  rw [hl] at hL1 ⊢
  rw [hl] at hround
  obtain ⟨rec, hrec⟩ : ∃ rec, recOf fn a #[p] assign body w.heap.size = rec := ⟨_, rfl⟩
  rw [hrec] at hL1
  have hIb : ∀ k A B, I k A → Below A.heap.size A B → I k B := fun k A B h hb => hI k A B h (.inr hb)
  have hIp : ∀ k A o, I k A → I k (A.putObj l o) := fun k A o h => hI k A _ h (.inl ⟨l, o, by omega, by omega, rfl⟩)
  refine (hseq l (fun k W => I k W ∧ W.heap[l]? = some (.loop (rec .ready none)) ∧ W.heap[w.heap.size]? = some (.deferred (some []))) (fun _ => False) W1 (hb0.trans (hb1.mono hb0.size)) ?_ (fun _ _ h => h.elim) ?_ ⟨hIb 0 _ _ h0 hb1, hL1, hK1⟩).mono ?_
  · rintro k A B ⟨h1, h2, h3⟩ hb
    have hlA : l < A.heap.size := (Array.getElem?_eq_some_iff.1 h2).1
    exact ⟨hIb k A B h1 hb, (hb.block l hlA).trans h2, (hb.block w.heap.size (by omega)).trans h3⟩
  · rintro k hk W ⟨h1, h2, h3⟩
    have hlW : l < W.heap.size := (Array.getElem?_eq_some_iff.1 h2).1
    have hy := run_yield (P := P) (args := #[enc xs[k]]) h2 (by rw [← hrec]; simp [recOf])
    refine ⟨_, _, _, _, hy, roundIn_of_wpIn trivial ?_⟩
    rw [← hrec]
    show assign.wpIn _ _ _ _ { tmps := (#[p].zip #[_]).foldl _ a.tmps, defers := [] } W
    rw [zip_one]
    refine wpIn_mono (hround k hk W hlW h1) ?_
    rintro e a₁ w₁ he
    cases e with
    | normal =>
      obtain ⟨hb, hbody⟩ := he
      have hl1 : w₁.heap[l]? = some (.loop (rec .ready none)) := (hb.block l hlW).trans h2
      have hk1 : w₁.heap[w.heap.size]? = some (.deferred (some [])) := (hb.block _ (by omega)).trans h3
      have hll : l < w₁.heap.size := (Array.getElem?_eq_some_iff.1 hl1).1
      refine ⟨_, run_beginRound hl1 (by rw [← hrec]; rfl), ?_⟩
      refine wpIn_mono (hbody _ (foot_put w₁ l _) (hIp _ _ _ (hIb _ _ _ h1 hb))) ?_
      rintro e a₂ W3 ⟨rfl, hf, hi3⟩
      have hlM : l ∉ M := fun e => by have := hM l e; omega
      have hDM : w.heap.size ∉ M := fun e => by have := hM _ e; omega
      have hl3 := (hf.keep l (by omega) hlM).trans (World.putObj_heap_same hll)
      have hr3 := run_endRound (P := P) (none : Option Code) hl3
      refine ⟨_, _, hr3, .inl ⟨rfl, ⟨hIp _ _ _ hi3, ?_, ?_⟩, ?_⟩⟩
      · rw [World.putObj_heap_same (Array.getElem?_eq_some_iff.1 hl3).1, ← hrec]; rfl
      · rw [World.putObj_heap_other (by omega), hf.keep _ (by omega) hDM, World.putObj_heap_other (by omega)]; exact hk1
      · have hsz := hb0.size
        have hs1 := hf.size
        have hs2 := hb.size
        refine ⟨hf.os.trans hb.os, hf.tape.trans hb.tape, hf.output.trans hb.output, by simp at *; omega, fun j hj hn => ?_⟩
        rw [World.putObj_heap_other (by omega), hf.keep j (by omega) hn, World.putObj_heap_other (by omega)]
        exact hb.block j (by omega)
    | exit id => exact he.elim
    | goto t => exact he.elim
    | ret => exact he.elim
    | panic c => exact he.elim
    | outgrown => exact he.elim
  · rintro e W2 ⟨⟨v, rfl⟩, h⟩
    rcases h with ⟨hi, h2, h3⟩ | h
    · refine ⟨none, _, by have := run_endLoop (P := P) h2 (by rw [← hrec]; simp [recOf]); rw [← hrec] at this; exact this, hdone _ (hIp _ _ _ hi) ((World.putObj_heap_other (by omega)).trans h3)⟩
    · exact h.elim
theorem range_first {g : Operand} {p : Tmp} {assign body : Code} {a : Act} {w : World} {gf : Nat} {lb : Array Value} (hg : a.eval g = .func (.func gf) #[] lb) (eg : ∀ args w, (callFunc gf args).run P w = .ok (.enter gf args) w)
    (xs : List α) (enc : α → Value) (w0 : World) (M0 : List Nat) (hseq : TellsG P gf lb xs enc M0 w0) (hb0 : Below w0.heap.size w0 w)
    (M : List Nat) (hM : ∀ k ∈ M, k < w.heap.size) (R : World → Prop) (hR : ∀ A B, R A → Below (w.heap.size + 1) A B → R B)
    (hround : ∀ (hk : 0 < xs.length) W, w.heap.size + 1 < W.heap.size → Below w.heap.size w W →
      assign.wpIn (Fence.wide.inRound (w.heap.size + 1)) 0 P (Exit.then (fun a₁ w₁ => Below W.heap.size W w₁ ∧ ∀ w₂, Foot [w.heap.size + 1] [w.heap.size + 1] w₁ w₂ → Below w.heap.size w w₂ → body.wpIn (Fence.wide.inRound (w.heap.size + 1)) 0 P (fun e _ W3 => e = .ret ∧ Keep (w.heap.size + 2) M w₂ W3 ∧ R W3) a₁ w₂) (fun _ _ _ => False))
        { tmps := a.tmps.setIfInBounds p (enc xs[0]), defers := [] } W)
    (hdone : ∀ W, xs = [] → Below w.heap.size w W → W.heap[w.heap.size]? = some (.deferred (some [])) → Q .normal { a with defers := [{ target := .collected w.heap.size, args := #[] }] ++ a.defers } W)
    (hstop : ∀ W, R W → W.heap[w.heap.size]? = some (.deferred (some [])) → Q .ret { a with defers := [{ target := .collected w.heap.size, args := #[] }] ++ a.defers } W) :
    (Code.rangeFunc g #[p] assign body).wp P Q a w := by
  refine enter_law hg eg fun fn W1 hb1 hL1 hK1 => ?_
  obtain ⟨l, hl⟩ : ∃ l, w.heap.size + 1 = l := ⟨_, rfl⟩
  rw [hl] at hL1 hround hR ⊢
  obtain ⟨rec, hrec⟩ : ∃ rec, recOf fn a #[p] assign body w.heap.size = rec := ⟨_, rfl⟩
  rw [hrec] at hL1
  refine (hseq l (fun k W => k = 0 ∧ Below w.heap.size w W ∧ W.heap[l]? = some (.loop (rec .ready none)) ∧ W.heap[w.heap.size]? = some (.deferred (some []))) (fun W => l < W.heap.size ∧ R W ∧ W.heap[l]? = some (.loop (rec .done (some .ret))) ∧ W.heap[w.heap.size]? = some (.deferred (some []))) W1 (hb0.trans (hb1.mono hb0.size)) ?_ ?_ ?_ ⟨rfl, hb1, hL1, hK1⟩).mono ?_
  · rintro k A B ⟨h0, h1, h2, h3⟩ hb
    have hlA : l < A.heap.size := (Array.getElem?_eq_some_iff.1 h2).1
    exact ⟨h0, h1.trans (hb.mono h1.size), (hb.block l hlA).trans h2, (hb.block w.heap.size (by omega)).trans h3⟩
  · rintro A B ⟨h0, h1, h2, h3⟩ hb
    exact ⟨Nat.lt_of_lt_of_le h0 hb.size, hR _ _ h1 (hb.mono (by omega)), (hb.block l h0).trans h2, (hb.block w.heap.size (by omega)).trans h3⟩
  · rintro k hk W ⟨rfl, h1, h2, h3⟩
    have hlW : l < W.heap.size := (Array.getElem?_eq_some_iff.1 h2).1
    have hy := run_yield (P := P) (args := #[enc xs[0]]) h2 (by rw [← hrec]; simp [recOf])
    refine ⟨_, _, _, _, hy, roundIn_of_wpIn trivial ?_⟩
    rw [← hrec]
    show assign.wpIn _ _ _ _ { tmps := (#[p].zip #[_]).foldl _ a.tmps, defers := [] } W
    rw [zip_one]
    refine wpIn_mono (hround hk W hlW h1) ?_
    rintro e a₁ w₁ he
    cases e with
    | normal =>
      obtain ⟨hb, hbody⟩ := he
      have hl1 : w₁.heap[l]? = some (.loop (rec .ready none)) := (hb.block l hlW).trans h2
      have hk1 : w₁.heap[w.heap.size]? = some (.deferred (some [])) := (hb.block _ (by omega)).trans h3
      have hll : l < w₁.heap.size := (Array.getElem?_eq_some_iff.1 hl1).1
      refine ⟨_, run_beginRound hl1 (by rw [← hrec]; rfl), ?_⟩
      refine wpIn_mono (hbody _ (foot_put w₁ l _) ((h1.trans (hb.mono h1.size)).trans (below_put _ (by omega)))) ?_
      rintro e a₂ W3 ⟨rfl, hf, hi3⟩
      have hlM : l ∉ M := fun e => by have := hM l e; omega
      have hDM : w.heap.size ∉ M := fun e => by have := hM _ e; omega
      have hl3 := (hf.keep l (by omega) hlM).trans (World.putObj_heap_same hll)
      have hr3 := run_endRound (P := P) (some Code.ret) hl3
      refine ⟨_, _, hr3, .inr ⟨rfl, ?_, hR _ _ hi3 (below_put _ (by omega)), ?_, ?_⟩⟩
      · simpa using (Array.getElem?_eq_some_iff.1 hl3).1
      · rw [World.putObj_heap_same (Array.getElem?_eq_some_iff.1 hl3).1, ← hrec]; rfl
      · rw [World.putObj_heap_other (by omega), hf.keep _ (by omega) hDM, World.putObj_heap_other (by omega)]; exact hk1
    | exit id => exact he.elim
    | goto t => exact he.elim
    | ret => exact he.elim
    | panic c => exact he.elim
    | outgrown => exact he.elim
  · rintro e W2 ⟨⟨v, rfl⟩, ⟨hz, hb, h2, h3⟩ | ⟨_, hr, h2, h3⟩⟩
    · exact ⟨none, _, by have := run_endLoop (P := P) h2 (by rw [← hrec]; simp [recOf]); rw [← hrec] at this; exact this, hdone _ (List.eq_nil_of_length_eq_zero hz) (hb.trans (below_put _ (by omega))) ((World.putObj_heap_other (by omega)).trans h3)⟩
    · exact ⟨some .ret, _, by have := run_endLoop (P := P) h2 (by rw [← hrec]; simp [recOf]); rw [← hrec] at this; exact this, wpIn_ret (hstop _ (hR _ _ hr (below_put _ (by omega))) ((World.putObj_heap_other (by omega)).trans h3))⟩
end
end Go.Proofs.YtedmkdjijhflnaaGreat

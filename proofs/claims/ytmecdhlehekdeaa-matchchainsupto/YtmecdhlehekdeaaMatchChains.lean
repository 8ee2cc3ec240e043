/- The law MatchChains, where what it reads is of bulk at most 1048576: a chain's names, lifetime, and whether it ends, are the reference's, whatever the name and the records (the first 20) and the number of steps up to 30. Condition: bulk at most 1048576. -/
import Derived.Test.YtmecdhlehekdeaaB6
import Derived.Test.YtmecdhlehekdeaaRows
import Derived.ProofKit
import Derived.OpenShut
import Derived.ShutString
import Derived.ChangeOld
import Derived.Below
import Derived.JoinedCond
namespace Go.Proofs.Ytmecdhlehekdeaa.matchChains
open Go.ChangeShapes Go.WideShapes Go.ChangeAt Go.RowKit
open Go.ChangeMaps (open_string shut_string)
set_option linter.unusedVariables false
set_option maxRecDepth 20000

theorem own : ownKnob Try.prog.godebug = none := by kernel_rfl

set_option maxRecDepth 100000 in
set_option maxHeartbeats 2000000 in
theorem walk (s : ByteArray) (a : Option Addr) (len cap : Nat) (D : List Rec) (z : Int) (w : World) (hb0 : s.size ≤ 1048576) (hD : RecsIn w a len cap D 1048576) (w2 : (Lit.int .i64 z).wf = true) :
    Calls Try.prog 5 #[.string s, .slice a len cap, .int .i64 z] w fun e w' => e = .returned (.bool true) ∧ Below w.heap.size w w' := by
  have HFW := Lib.hid (few11_any a cap D 20 w hD.at0 (by decide))
  rw [hD.len] at HFW
  have HA := Lib.hid (hD.at0.take 20)
  have HALL := Lib.hid ((all2_of hD).take 20)
  have HLE : Hid ((D.take 20).length ≤ 20) := Lib.hid (by rw [List.length_take]; omega)
  have HLV := fun W => Lib.hid (lives11_any W)
  obtain ⟨m, hm⟩ : ∃ m, min z 30 = m := ⟨_, rfl⟩
  have HM := Lib.hid hm
  have hm30 : m ≤ 30 := by omega
  have hs : s.size ≤ 2000000 := by omega
  generalize D.take 20 = L at *
  have HCO := Lib.hid (chain_any a cap L s m w HA.out HALL.out hs (by omega) (by have := HLE.out; omega))
  have HCR := fun V (h : Below w.heap.size w V) => Lib.hid (refChain11_any a cap L s m V (HA.out.below h) HALL.out hs (by omega))
  have HPN := Lib.hid (chain_pos L m.toNat s 604800)
  generalize chainP L m.toNat s 604800 = CH at *
  generalize L.length = n at *
  obtain ⟨xs, T, en⟩ := CH
  clear hb0 hD w2 hm
  go_enter Try.func5, Try.ntmps5
  go_wp2_with fail
  refine HFW.out.mono ?_
  rintro e wq ⟨rfl, hwq⟩
  obtain rfl : w = wq := hwq.symm
  clear HFW hwq
  go_wp2_with (refine min_step rfl _ _ rfl rfl rfl ?_; rw [HM.out])
  refine HCO.out.mono ?_
  rintro e w1 ⟨v1, rfl, hr1, hb1⟩
  have HB1 := Lib.hid hb1
  have HR1 := Lib.hid hr1
  clear hb1 hr1 HCO
  go_wp2_with fail
  refine (HCR w1 HB1.out).out.mono ?_
  rintro e w2 ⟨v2, rfl, hr2, hb2⟩
  have HB2 := Lib.hid (chain HB1.out hb2)
  have HR3 := Lib.hid (HR1.out.below hb2)
  have HR2 := Lib.hid hr2
  clear hb2 hr2 HCR HR1 HB1
  have hpos : 0 < xs.length := by obtain ⟨l, e, _⟩ := HPN.out; have e : xs = s :: l := e; rw [e]; simp
  obtain ⟨g1, c1, rfl, _, _⟩ := HR3.out.form hpos
  obtain ⟨g2, c2, rfl, _, _⟩ := HR2.out.form hpos
  have hxl : xs.length ≤ 2000000 := by obtain ⟨l, e, h⟩ := HPN.out; have e : xs = s :: l := e; rw [e]; simp; omega
  have HSM := Lib.hid (same_true g1 g2 xs.length c1 c2 xs w2 rfl hxl (own_cells HR3.out) (own_cells HR2.out))
  generalize xs.length = k at *
  clear HR2 HR3 HPN
  go_wp2_with fail
  refine HSM.out.mono ?_
  rintro e w3 ⟨rfl, q, hq⟩
  have HB3 : Hid (Below w.heap.size w w3) := Lib.hid (by rw [hq]; exact belowN HB2.out _)
  clear hq HSM
  go_wp2_with fail
  refine (HLV w3).out.mono ?_
  rintro e w4 ⟨rfl, hb4⟩
  have HB4 := Lib.hid (chain HB3.out hb4)
  clear hb4
  go_wp2_with fail
  go_ret
  exact ⟨rfl, HB4.out⟩

theorem contract (H : Type) (enc : TypeId × Value → H) (W : World) (base : Nat) (args : Array Value) (ds gs : List (DataW H)) (before : List MemPlace)
    (hval0 : ∀ (j : Nat) t v, Try.f5.params[j]? = some t → args[j]? = some v → Value.okWide Try.prog W .any base t v)
    (hW : DataW.Whole enc Try.prog Try.f5.params.toList Rows.matchChainsSpec.vars false W args.toList ds gs before) (hk : Rows.uptoSmall H (ds ++ gs) = true) :
    Calls Try.prog 5 args W fun e W' => ∃ v, e = .returned v ∧ Rows.matchChainsSpec.post enc Try.prog Try.f5 false true false false W args v W' := by
  have hkb : ∀ d ∈ ds, Rows.uptoBulk d ≤ 1048576 := fun d hd => Nat.le_trans (bulk_mem (List.mem_append_left _ hd)) (of_decide_eq_true hk)
  clear hk
  have hval : ∀ (j : Nat) t v, Try.f5.params[j]? = some t → args[j]? = some v → Value.okWide Try.prog W .any base t v := hval0
  have hW' := hW
  obtain ⟨p, q, hA0, hV, rfl, hfz, hnd⟩ := hW
  have hA : DataW.TrodAll enc Try.prog W 0 (fun _ => true) true Try.f5.params.toList args.toList ds p := hA0
  rw [Try.params5] at hA hval
  obtain ⟨v0, vs0, d0, ds0, p0, q0, hargs, rfl, rfl, h0, r0⟩ := trodAll_cons hA
  obtain ⟨v1, vs1, d1, ds1, p1, q1, rfl, rfl, rfl, h1, r1⟩ := trodAll_cons r0
  obtain ⟨v2, vs2, d2, ds2, p2, q2, rfl, rfl, rfl, h2, r2⟩ := trodAll_cons r1
  obtain ⟨rfl, rfl, rfl⟩ := trodAll_nil r2
  obtain rfl : args = #[v0, v1, v2] := by cases args; simp_all
  obtain ⟨rfl, rfl⟩ := trodVars_none hV
  have hb0 := hkb d0 (by simp)
  obtain ⟨a0, rfl, rfl, rfl, w0⟩ := open_string Try.underlying9 (hval 0 9 v0 rfl rfl) h0
  replace hb0 := Nat.le_trans (bulk_str a0) hb0
  obtain ⟨a1, len1, cap1, rfl⟩ := okWide_slice Try.underlying25 (hval 1 25 v1 rfl rfl)
  have k1 := h1
  have lt1 : ∀ x ∈ p1, x.block < W.heap.size := by obtain ⟨m, hm⟩ := k1; exact DataW.trod_lt m _ _ _ hm
  obtain ⟨z1, w1⟩ : ∃ D, RecsIn W a1 len1 cap1 D (Rows.uptoBulk d1) := by
    obtain ⟨fuel, hf⟩ := h1
    obtain ⟨xa, xl, xc, D, hcs, hw⟩ := open_recs hf
    simp [Value.cells] at hcs
    obtain ⟨rfl, rfl, rfl⟩ := hcs
    exact ⟨D, hw⟩
  replace w1 := w1.wider2 (hkb d1 (by simp))
  obtain ⟨a2, rfl, rfl, rfl, w2⟩ := open_int Try.underlying3 (hval 2 3 v2 rfl rfl) h2
  clear hA0 hval0
  refine (walk a0 a1 len1 cap1 z1 a2 W hb0 w1 w2).mono fun e W' ⟨he, bel⟩ => ?_
  subst he
  exact ⟨_, rfl, _, _, _, [], _, [], hW', trodAll_mk1 (shut_bool Try.underlying4 _), (trodAll_cons_mk (shut_string Try.underlying9 w0) (trodAll_cons_mk (Below.trod laidOut (by kernel_rfl) (of_decide_eq_true (by kernel_rfl)) k1 bel lt1) (trodAll_cons_mk (shut_int Try.underlying3 w2) trodAll_mk0))), rfl, bel.frame _, fun h => by cases h⟩

set_option maxRecDepth 100000 in
theorem lifted (os : Os) (started : os.Started) (H : Type) (enc : TypeId × Value → H) (F : Stop.Interp) :
    ReturnsInHanded {} Try.checked os 5 .any ((Rows.OpenSpec.upto Rows.matchChainsSpec).pre6 enc Try.prog Try.f5 Rows.matchChainsUptoRow.domain false) (((Rows.OpenSpec.upto Rows.matchChainsSpec).at F).post enc Try.prog Try.f5 false true false false) := by
  refine returnsInHanded_of_cond (C := Try.checked) (s := Rows.OpenSpec.upto Rows.matchChainsSpec) (k := Rows.uptoSmall) rfl own started (by kernel_rfl) Try.func5
    (OpenSpec.witness (enc := enc) (C := Try.checked) (s := Rows.OpenSpec.upto Rows.matchChainsSpec) (k := Rows.uptoSmall) rfl false ⟨#[], #[.string ByteArray.empty, .slice none 0 0, .int .i64 0], []⟩ 8 (by kernel_rfl) (by kernel_rfl) (by kernel_rfl)
      (x := ([.lit (.string []), .nil, .lit (.int .i64 0)], [], [])) (by kernel_rfl) rfl (by kernel_rfl)) ?_
  intro W base args ds gs before hval hW _ hk _
  exact contract H enc W base args ds gs before hval hW hk

theorem proved : Rows.MatchChainsUptoSaid :=
  OpenClaim.holds_of_cond 5 Try.f5 rfl rfl rfl rfl rfl rfl rfl ⟨rfl, rfl, rfl, rfl, rfl⟩ rfl rfl rfl rfl rfl (by kernel_rfl) Try.func5 (by kernel_rfl)
    (of_decide_eq_true (by kernel_rfl)) (by unfold Func.isWrapper; first | (rw [if_pos (by decide +kernel)]; kernel_rfl) | (rw [if_neg (by decide +kernel)]; exact ⟨rfl, rfl⟩))
    (fun os started H enc _ F => lifted os started H enc F)
#print axioms proved
end Go.Proofs.Ytmecdhlehekdeaa.matchChains

/- A name (made one that may be) that is asked, and answered by up to ten records of it, is written whole once, and by a pointer in each answer: so many bytes. For every name and number of bulk at most 1048576. -/
import Derived.Test.YticdpidngmeebaaB9
import Derived.Test.YticdpidngmeebaaRows
import Derived.ProofKit
import Derived.OpenShut
import Derived.ShutString
import Derived.ChangeOld
import Derived.Below
import Derived.JoinedCond
namespace Go.Proofs.Yticdpidngmeebaa.wireSmall
open Go.ChangeShapes Go.WideShapes Go.ChangeAt Go.RowKit
open Go.ChangeMaps (open_string shut_string)
set_option linter.unusedVariables false
set_option maxRecDepth 20000

theorem own : ownKnob Try.prog.godebug = none := by kernel_rfl

theorem build_addr4 {ops : Array Oper} {rest : List Oper} {op : Oper} {a : Act} {w : World} {Q : Exit → Act → World → Prop} (hg : op.guard = none) (ho : op.op = .build 40 #[(0, .const (.int .i64 4))])
    (h : wpList Try.prog ops Q rest (a.put op.dst (addrV 4 (List.replicate 16 0))) w) : wpList Try.prog ops Q (op :: rest) a w := by
  have e : Try.prog.built 40 ((#[(0, .const (.int .i64 4))] : Array (Nat × Operand)).map fun (i, x) => (i, a.eval x)).toList = some (addrL 4 (List.replicate 16 0)).toArray := by
    simp only [List.map_toArray, List.map_cons, List.map_nil]
    rfl
  refine wpList_build hg 40 _ ho (by rw [e]; rfl) ?_
  rw [e]
  exact h
theorem built_own (s : ByteArray) : Try.prog.built 42 [(0, .string s), (1, .int .i64 1), (2, .int .i64 1), (4, addrV 4 (List.replicate 16 0))] = some (recL (ownR s)).toArray := by kernel_rfl
theorem build_own {ops : Array Oper} {rest : List Oper} {op : Oper} {a : Act} {w : World} {Q : Exit → Act → World → Prop} {s : ByteArray} (hg : op.guard = none) (x0 x1 x2 x3 : Operand) (ho : op.op = .build 42 #[(0, x0), (1, x1), (2, x2), (4, x3)])
    (h0 : a.eval x0 = .string s) (h1 : a.eval x1 = .int .i64 1) (h2 : a.eval x2 = .int .i64 1) (h3 : a.eval x3 = addrV 4 (List.replicate 16 0)) (h : wpList Try.prog ops Q rest (a.put op.dst (recV (ownR s))) w) : wpList Try.prog ops Q (op :: rest) a w := by
  have e : Try.prog.built 42 ((#[(0, x0), (1, x1), (2, x2), (4, x3)] : Array (Nat × Operand)).map fun (i, x) => (i, a.eval x)).toList = some (recL (ownR s)).toArray := by
    simp only [List.map_toArray, List.map_cons, List.map_nil]
    rw [h0, h1, h2, h3]; exact built_own s
  refine wpList_build hg 42 _ ho (by rw [e]; rfl) ?_
  rw [e]
  exact h
theorem ownR_fit {s : ByteArray} (hs : s.size ≤ 100) : Fit (ownR s) := ⟨rfl, by intro x hx; rw [(List.mem_replicate.1 hx).2]; decide, (by decide : (Lit.int .i64 1).wf = true), (by decide : (Lit.int .i64 1).wf = true), (by decide : (Lit.int .i64 0).wf = true), (by decide : (Lit.int .i64 4).wf = true), by show s.size ≤ maxLen; unfold maxLen; omega, Nat.zero_le _, Nat.zero_le _⟩
theorem small_write {w : World} {nm : ByteArray} {N : Nat} {aq a1 : Option Addr} {cq c1 : Nat} (hm : mayN nm = true) (hs : nm.size ≤ 100) (hN : N < 11) (hM : MsgIn w (smallM nm N) aq a1 none none cq c1 0 0) :
    Calls Try.prog 11 #[msgV (smallM nm N) aq a1 none none cq c1 0 0] w fun e w' => ∃ a c, e = .returned (.tuple #[.slice a (12 + (bytesL (labelsB nm)).length + 4 + N * ((if nm.size = 0 then 1 else 2) + 14)) c, .int .i64 0]) ∧ Below w.heap.size w w' := by
  have hl : (bytesL (labelsB nm)).length ≤ 102 := by rw [bytesL_size, size_labels]; split <;> omega
  have h1 : (if nm.size = 0 then 1 else 2) ≤ 2 := by split <;> omega
  have hlen := smallM_len hm N
  have hle : (wB (smallM nm N)).length ≤ 1232 := by
    rw [hlen]
    have : N * ((if nm.size = 0 then 1 else 2) + 14) ≤ 10 * 16 := Nat.mul_le_mul (by omega) (by omega)
    omega
  refine (write9_any (smallM nm N) aq a1 none none cq c1 0 0 w hM ⟨?_, ?_, ?_, ?_, by show 1 ≤ 1000000; decide, ?_, Nat.zero_le _, Nat.zero_le _⟩ ⟨by show 1 ≤ 65535; decide, ?_, Nat.zero_le _, Nat.zero_le _⟩).mono ?_
  · intro q hq
    rw [List.mem_singleton.1 hq]
    show nm.size ≤ 1900000
    omega
  · intro r hr
    rw [(List.mem_replicate.1 hr).2]
    exact ⟨by show nm.size ≤ 1900000; omega, Nat.zero_le _⟩
  · intro r hr; cases hr
  · intro r hr; cases hr
  · show (List.replicate N (ownR nm)).length ≤ _
    rw [List.length_replicate]; omega
  · show (List.replicate N (ownR nm)).length ≤ _
    rw [List.length_replicate]; omega
  · intro e w' h
    obtain ⟨hb, v', h1, h2⟩ := h.ok (smallM_may hm N) hle
    obtain ⟨a, c, ev⟩ := own_slice h2
    subst ev
    rw [hlen] at h1
    exact ⟨a, c, h1, hb⟩
set_option maxRecDepth 100000 in
set_option maxHeartbeats 4000000 in
theorem walk (s : ByteArray) (z : Int) (w0 : s.size ≤ 1048576) (w1 : (Lit.int .i64 z).wf = true) (w : World) :
    Calls Try.prog 8 #[.string s, .int .i64 z] w fun e w' => e = .returned (.bool true) ∧ Below w.heap.size w w' := by
  have HGD := Lib.hid (refGoodN_any s w (by omega))
  have HAR := fun W => Lib.hid (around_any z 11 W w1 (by decide) (by decide))
  have HMY := Lib.hid (good_may s)
  have HSZ := Lib.hid (goodN_small s)
  have HAL := Lib.hid (aroundN_lt z 11 (by decide))
  have HLV := fun W => Lib.hid (lives9_any W)
  generalize goodN s = nm at *
  generalize aroundN z 11 = N at *
  clear w0 w1
  go_enter Try.func8, Try.ntmps8
  go_wp2_with fail
  refine HGD.out.mono ?_
  rintro e wg ⟨rfl, hbg⟩
  have HB0 := Lib.hid hbg
  clear hbg HGD
  go_wp2_with fail
  refine (HAR _).out.mono ?_
  rintro e wx ⟨rfl, rfl⟩
  have HAS := Lib.hid (ask_any 1 nm 1 wg (by have := HSZ.out; unfold maxLen; omega) (by decide))
  clear HAR
  go_wp2_with fail
  refine HAS.out.mono ?_
  rintro e w1 ⟨g1, rfl, hm1, hb1⟩
  obtain ⟨vq, hvq, lvq, ovq⟩ := msg_row (askM 1 nm 1) (some ⟨g1, 0, none⟩) none none none 1 0 0 0
  have HVQ := Lib.hid hvq
  have HLQ := Lib.hid lvq
  have HZ1 : Hid (CellsAt (w1.alloc (.cells zM.toArray 25)) w1.heap.size zM) := Lib.hid (CellsAt.new w1 _ zM)
  have HM0 := Lib.hid hm1
  have HB1 := Lib.hid (chain HB0.out hb1)
  rw [hvq]
  clear hm1 hb1 HAS hvq
  go_upto_region 4 with (have HZ := HZ1; refine store_msg HZ rfl _ _ rfl rfl rfl rfl lvq ovq (fun W2 HW2 HX2 => ?_); clear HZ1)
  have HB2 : Hid (Below w1.heap.size w1 W2) := Lib.hid (by rw [HW2.out]; exact below_cells (Nat.le_refl _) _ _ _ ((Below.refl _ _).alloc (Nat.le_refl _) _))
  have HM := Lib.hid (HM0.out.below HB2.out)
  have HB := Lib.hid (chain HB1.out HB2.out)
  clear HB2 HM0 HB1 HZ HW2 lvq ovq HB0
  generalize w1.heap.size = G1 at *
  go_wp2_with fail
  go_loopw [6, 7] (fun s6 s7 wr => ∃ k : Nat, k ≤ N ∧ s7 = .int .i64 (k : Int) ∧ Hid (RowR wr W2.heap.size s6 (List.replicate k (ownR nm))) ∧ Hid (Below W2.heap.size W2 wr)) (fun _ i _ => N - (intOf i).toNat)
  case atStart => exact ⟨0, Nat.zero_le _, rfl, Lib.hid (RowR.nil _ _), Lib.hid (Below.refl _ _)⟩
  case round =>
    obtain ⟨k, hk, rfl, HR, HBr⟩ := hrel
    obtain ⟨x6, y6, hx6⟩ := own_slice HR.out.1
    subst hx6
    by_cases hkN : k < N
    · have hd : decide ((k : Int) < (N : Int)) = true := decide_eq_true (by omega)
      have hdn : decide (k < N) = true := decide_eq_true hkN
      have H16 : Hid ((ownR nm).b.length = 16) := Lib.hid rfl
      obtain ⟨kk, hkk⟩ : ∃ kk, (List.replicate k (ownR nm)).length = kk := ⟨_, rfl⟩
      have HKK := Lib.hid hkk
      rw [hkk] at HR ⊢
      have HONE : Hid (1 = [ownR nm].length) := Lib.hid rfl
      have HALL : Hid (All16 [ownR nm]) := Lib.hid (fun r hr => by rw [List.mem_singleton.1 hr]; rfl)
      have HLE : Hid ((List.replicate k (ownR nm)).length + [ownR nm].length ≤ 100000) := Lib.hid (by have := HAL.out; simp; omega)
      clear hkk
      have hNN := HAL.out
      go_wp2_with (first
        | refine build_addr4 rfl rfl ?_
        | refine build_own rfl _ _ _ _ rfl rfl rfl rfl rfl ?_
        | (refine build_recS H16 rfl _ rfl rfl (fun W HW => ?_); have HBW : Hid (Below wr.heap.size wr W) := Lib.hid (by rw [HW.out]; exact (Below.refl _ _).alloc (Nat.le_refl _) _); have HE : Hid (RowR W W2.heap.size (.slice x6 kk y6) (List.replicate k (ownR nm))) := Lib.hid (HR.out.below HBW.out); have HRG : Hid (W.rangeAt wr.heap.size 0 (flatR [ownR nm])) := Lib.hid (by rw [HW.out]; have := built_new (w := wr) (cs := recL (ownR nm)) 42; simpa [flatR] using this); have HBS : Hid (W2.heap.size ≤ W.heap.size) := Lib.hid (Nat.le_trans HBr.out.size HBW.out.size))
        | (have HE2 := HE; refine append_recs HE2 _ _ rfl rfl rfl [ownR nm] rfl HONE HRG HALL HLE HBS (fun v' w' HO HG HF => ?_); clear HE))
      go_roundw
      case rel => exact ⟨k + 1, by omega, by go_num, by rw [List.replicate_succ']; exact HO, Lib.hid (by
        have h1 := chain HBr.out HBW.out
        exact h1.grown HG.out h1.size (fun j hj => (HE2.out.1.lt j hj).1))⟩
      case measure => simp [intOf]; omega
    · obtain rfl : k = N := by omega
      have hd : decide ((k : Int) < (k : Int)) = false := by simp
      rw [List.length_replicate] at HR ⊢
      obtain ⟨ad, cd, hv, hrs⟩ := HR.out.recs (fun r hr => by rw [(List.mem_replicate.1 hr).2]; exact ownR_fit HSZ.out)
      injection hv with e1 e2 e3
      subst e1
      subst e3
      have HRS := Lib.hid hrs
      clear hrs
      have HM2 := Lib.hid (HM.out.below HBr.out)
      have HB2 := Lib.hid (chain HB.out HBr.out)
      have HX := Lib.hid (HX2.out.below HBr.out)
      have HAN := Lib.hid (answer_any (askM 1 nm 1) (some ⟨g1, 0, none⟩) none none none 1 0 0 0 x6 y6 (List.replicate k (ownR nm)) wr HM2.out.qs HRS.out (by show 1 ≤ 100000; decide) (by rw [List.length_replicate]; have := HAL.out; omega))
      rw [HVQ.out, List.length_replicate] at HAN
      clear HM HB HX2 HR HRS HBr HM2 e2 hk hkN
      go_wp2_with (refine load_msg HX HLQ.out _ rfl rfl rfl ?_)
      refine HAN.out.mono ?_
      rintro e w3 ⟨hb3, aq2, a2, cq2, c2, rfl, hm3⟩
      have HB3 := Lib.hid (chain HB2.out hb3)
      have HWR := Lib.hid (small_write HMY.out HSZ.out HAL.out hm3)
      unfold smallM at HWR
      generalize msgV (ansM (askM 1 nm 1) (List.replicate k (ownR nm))) aq2 a2 none none cq2 c2 0 0 = mv at *
      clear hm3 hb3 HAN HB2 HX
      obtain ⟨nb, hnb⟩ : ∃ nb, (bytesL (labelsB nm)).length = nb := ⟨_, rfl⟩
      have HNB := Lib.hid hnb
      have HNBL : Hid (nb ≤ 102) := Lib.hid (by have h1 := HSZ.out; rw [← hnb, bytesL_size, size_labels]; split <;> omega)
      have HBY := fun W => Lib.hid (refBytes8_any nm W (by have := HSZ.out; omega) (fun p hp => by have := (may_label HMY.out p hp).2; omega))
      rw [hnb] at HWR
      have HBY2 : ∀ W, Hid (Calls Try.prog 26 #[.string nm] W fun e w' => ∃ a c, e = .returned (.slice a nb c) ∧ Below W.heap.size W w') := fun W => Lib.hid ((HBY W).out.mono (fun e w' h => by
        obtain ⟨v, h1, h2, h3⟩ := h
        obtain ⟨a, c, ev⟩ := own_slice h2
        subst ev
        rw [hnb] at h1
        exact ⟨a, c, h1, h3⟩))
      clear hnb HBY
      have hem : nm.toList.isEmpty = decide (nm.size = 0) := by
        rw [Bool.eq_iff_iff, List.isEmpty_iff, decide_eq_true_iff, ByteArray.toList_eq]
        constructor
        · intro h
          rw [← data_size, h]
          rfl
        · intro h
          exact List.eq_nil_of_length_eq_zero (by rw [data_size]; exact h)
      by_cases he : nm.size = 0
      · rw [if_pos he] at HWR
        rw [decide_eq_true he] at hem
        obtain ⟨tot, htot⟩ : ∃ tot, 12 + nb + 4 + k * (1 + 14) = tot := ⟨_, rfl⟩
        have HTO := Lib.hid htot
        rw [htot] at HWR
        clear htot he
        go_wp2_with fail
        refine HWR.out.mono ?_
        rintro e w4 ⟨a4, c4, rfl, hb4⟩
        have HB4 := Lib.hid (chain HB3.out hb4)
        clear hb4 HWR HB3
        go_wp2_with fail
        refine (HBY2 _).out.mono ?_
        rintro e w5 ⟨a5, c5, rfl, hb5⟩
        have HB5 := Lib.hid (chain HB4.out hb5)
        clear hb5 HBY2 HB4
        have hq : (tot : Int) = wrap64 (wrap64 (wrap64 (12 + (nb : Int)) + 4) + wrap64 ((k : Int) * 15)) := by
          have h1 := HTO.out
          have h2 := HNBL.out
          have h3 := HAL.out
          simp only [wrap64]
          omega
        go_wp2_with fail
        refine (HLV _).out.mono ?_
        rintro e w6 ⟨rfl, hb6⟩
        have HB6 := Lib.hid (chain HB5.out hb6)
        clear hb6 HLV HB5
        go_wp2_with fail
        go_ret
        exact ⟨rfl, HB6.out⟩
      · rw [if_neg he] at HWR
        rw [decide_eq_false he] at hem
        obtain ⟨tot, htot⟩ : ∃ tot, 12 + nb + 4 + k * (2 + 14) = tot := ⟨_, rfl⟩
        have HTO := Lib.hid htot
        rw [htot] at HWR
        clear htot he
        go_wp2_with fail
        refine HWR.out.mono ?_
        rintro e w4 ⟨a4, c4, rfl, hb4⟩
        have HB4 := Lib.hid (chain HB3.out hb4)
        clear hb4 HWR HB3
        go_wp2_with fail
        refine (HBY2 _).out.mono ?_
        rintro e w5 ⟨a5, c5, rfl, hb5⟩
        have HB5 := Lib.hid (chain HB4.out hb5)
        clear hb5 HBY2 HB4
        have hq : (tot : Int) = wrap64 (wrap64 (wrap64 (12 + (nb : Int)) + 4) + wrap64 ((k : Int) * 16)) := by
          have h1 := HTO.out
          have h2 := HNBL.out
          have h3 := HAL.out
          simp only [wrap64]
          omega
        go_wp2_with fail
        refine (HLV _).out.mono ?_
        rintro e w6 ⟨rfl, hb6⟩
        have HB6 := Lib.hid (chain HB5.out hb6)
        clear hb6 HLV HB5
        go_wp2_with fail
        go_ret
        exact ⟨rfl, HB6.out⟩

theorem contract (H : Type) (enc : TypeId × Value → H) (W : World) (base : Nat) (args : Array Value) (ds gs : List (DataW H)) (before : List MemPlace)
    (hval0 : ∀ (j : Nat) t v, Try.f8.params[j]? = some t → args[j]? = some v → Value.okWide Try.prog W .any base t v)
    (hW : DataW.Whole enc Try.prog Try.f8.params.toList Rows.wireSmallSpec.vars false W args.toList ds gs before) (hk : Rows.uptoSmall H (ds ++ gs) = true) :
    Calls Try.prog 8 args W fun e W' => ∃ v, e = .returned v ∧ Rows.wireSmallSpec.post enc Try.prog Try.f8 false true false false W args v W' := by
  have hkb : ∀ d ∈ ds, Rows.uptoBulk d ≤ 1048576 := fun d hd => Nat.le_trans (bulk_mem (List.mem_append_left _ hd)) (of_decide_eq_true hk)
  clear hk
  have hval : ∀ (j : Nat) t v, Try.f8.params[j]? = some t → args[j]? = some v → Value.okWide Try.prog W .any base t v := hval0
  have hW' := hW
  obtain ⟨p, q, hA0, hV, rfl, hfz, hnd⟩ := hW
  have hA : DataW.TrodAll enc Try.prog W 0 (fun _ => true) true Try.f8.params.toList args.toList ds p := hA0
  rw [Try.params8] at hA hval
  obtain ⟨v0, vs0, d0, ds0, p0, q0, hargs, rfl, rfl, h0, r0⟩ := trodAll_cons hA
  obtain ⟨v1, vs1, d1, ds1, p1, q1, rfl, rfl, rfl, h1, r1⟩ := trodAll_cons r0
  obtain ⟨rfl, rfl, rfl⟩ := trodAll_nil r1
  obtain rfl : args = #[v0, v1] := by cases args; simp_all
  obtain ⟨rfl, rfl⟩ := trodVars_none hV
  have hb0 := hkb d0 (by simp)
  obtain ⟨a0, rfl, rfl, rfl, w0⟩ := open_string Try.underlying9 (hval 0 9 v0 rfl rfl) h0
  replace hb0 := Nat.le_trans (bulk_str a0) hb0
  obtain ⟨a1, rfl, rfl, rfl, w1⟩ := open_int Try.underlying3 (hval 1 3 v1 rfl rfl) h1
  clear hA0 hval0
  refine (walk a0 a1 hb0 w1 W).mono fun e W' ⟨he, bel⟩ => ?_
  subst he
  exact ⟨_, rfl, _, _, _, [], _, [], hW', trodAll_mk1 (shut_bool Try.underlying4 _), (trodAll_cons_mk (shut_string Try.underlying9 w0) (trodAll_cons_mk (shut_int Try.underlying3 w1) trodAll_mk0)), rfl, bel.frame _, fun h => by cases h⟩

set_option maxRecDepth 100000 in
theorem lifted (os : Os) (started : os.Started) (H : Type) (enc : TypeId × Value → H) (F : Stop.Interp) :
    ReturnsInHanded {} Try.checked os 8 .any ((Rows.OpenSpec.upto Rows.wireSmallSpec).pre6 enc Try.prog Try.f8 Rows.wireSmallUptoRow.domain false) (((Rows.OpenSpec.upto Rows.wireSmallSpec).at F).post enc Try.prog Try.f8 false true false false) := by
  refine returnsInHanded_of_cond (C := Try.checked) (s := Rows.OpenSpec.upto Rows.wireSmallSpec) (k := Rows.uptoSmall) rfl own started (by kernel_rfl) Try.func8
    (OpenSpec.witness (enc := enc) (C := Try.checked) (s := Rows.OpenSpec.upto Rows.wireSmallSpec) (k := Rows.uptoSmall) rfl false ⟨#[], #[.string ByteArray.empty, .int .i64 0], []⟩ 8 (by kernel_rfl) (by kernel_rfl) (by kernel_rfl)
      (x := ([.lit (.string []), .lit (.int .i64 0)], [], [])) (by kernel_rfl) rfl (by kernel_rfl)) ?_
  intro W base args ds gs before hval hW _ hk _
  exact contract H enc W base args ds gs before hval hW hk

theorem proved : Rows.WireSmallUptoSaid :=
  OpenClaim.holds_of_cond 8 Try.f8 rfl rfl rfl rfl rfl rfl rfl ⟨rfl, rfl, rfl, rfl, rfl⟩ rfl rfl rfl rfl rfl (by kernel_rfl) Try.func8 (by kernel_rfl)
    (of_decide_eq_true (by kernel_rfl)) (by unfold Func.isWrapper; first | (rw [if_pos (by decide +kernel)]; kernel_rfl) | (rw [if_neg (by decide +kernel)]; exact ⟨rfl, rfl⟩))
    (fun os started H enc _ F => lifted os started H enc F)
#print axioms proved
end Go.Proofs.Yticdpidngmeebaa.wireSmall

/- Texts that belong together, one behind the other: EqRec, RefWireSame, RefWireSame2, WirEqual, WirSame, WirAsk, MatRefFo, MatRefTe, MatAddrs, MatOwnCh, MatRefAn, MatOwn1, MatOwnTe, MatOwnFo, MatOwnAn, MatHelp, GenOps. -/
import Derived.Test.YtedmkdjijhflnaaB3
import Derived.Deep.RegionHeld3
import Derived.Deep.Cut
import Derived.Laws.Tables
/- Records and questions compared. -/
namespace Go.Proofs.Ytedmkdjijhflnaa
open Go.RowKit
set_option linter.unusedVariables false
set_option maxRecDepth 20000

theorem eqF_nil (P : Program) (W : World) (D : Nat) (X Y : Array Value) : (Op.eqFields D X Y []).run P W = .ok true W := by simp [Op.eqFields]
theorem eqF_cons (P : Program) (W : World) (D : Nat) (X Y : Array Value) (f : Field) (fs : List Field) (a b : Value) (r s : Bool) (hn : f.name ≠ "_")
    (h1 : (part f.type X f.offset).run P W = .ok a W) (h2 : (part f.type Y f.offset).run P W = .ok b W) (h3 : (Op.equalIn D f.type a b).run P W = .ok r W) (h4 : (Op.eqFields D X Y fs).run P W = .ok s W) :
    (Op.eqFields D X Y (f :: fs)).run P W = .ok (r && s) W := by
  simp only [Op.eqFields, ne_eq, hn, not_false_eq_true, if_true, Sem.run_bind, h1, h2, h3, Result.andThen_ok, Sem.run_ite, Sem.run_pure]
  cases r
  · rfl
  · simpa using h4
theorem plainK_str : Try.prog.plainKey 9 = true := by kernel_rfl
theorem str_eq (a b : ByteArray) : (a.toList == b.toList) = decide (a = b) := by
  rw [Bool.eq_iff_iff, beq_iff_eq, decide_eq_true_iff]
  constructor
  · intro h
    rw [ByteArray.toList_eq, ByteArray.toList_eq] at h
    exact bytes_ext h
  · intro h; rw [h]
theorem eqS (d : Nat) (a b : ByteArray) (W : World) : (Op.equalIn (d + 1) 9 (.string a) (.string b)).run Try.prog W = .ok (decide (a = b)) W := by
  rw [run_equalIn_string (P := Try.prog) W d 9 a b Try.underlying9, str_eq]
theorem eqI (d : Nat) (a b : Int) (W : World) : (Op.equalIn (d + 1) 3 (.int .i64 a) (.int .i64 b)).run Try.prog W = .ok (decide (a = b)) W := by
  rw [run_equalIn_int (P := Try.prog) W d 3 .i64 .i64 a b Try.underlying3]
  congr 1
theorem rec_cell (r : Rec) (h16 : r.b.length = 16) : (recL r).toArray[0]? = some (.string r.name) ∧ (recL r).toArray[1]? = some (.int .i64 r.ty) ∧ (recL r).toArray[2]? = some (.int .i64 r.cl) ∧ (recL r).toArray[3]? = some (.int .i64 r.ttl) ∧ (recL r).toArray[21]? = some (.string r.tg) ∧ (recL r).toArray[22]? = some (.string r.da) := by
  have hl := addrL_len r.f r.b h16
  refine ⟨rfl, rfl, rfl, rfl, ?_, ?_⟩
  · rw [List.getElem?_toArray]
    unfold recL
    rw [List.getElem?_append_right (by simp [hl])]
    simp [hl]
  · rw [List.getElem?_toArray]
    unfold recL
    rw [List.getElem?_append_right (by simp [hl])]
    simp [hl]
theorem part_recA (W : World) (r : Rec) (h16 : r.b.length = 16) : (part 42 (recL r).toArray 4).run Try.prog W = .ok (addrV r.f r.b) W := by
  obtain ⟨i, hi, hs⟩ : ∃ i, Try.prog.info? 42 = some i ∧ i.size = 17 := ⟨_, rfl, by kernel_rfl⟩
  have h2 : (isAgg 42).run Try.prog W = .ok true W := by
    unfold isAgg
    rw [Sem.run_bind, run_underlying Try.underlying42 W]
    simp
  have h3 : (sizeOf 42).run Try.prog W = .ok 17 W := by simp [sizeOf, typeInfo, hi, hs]
  simp only [part, Sem.run_bind, h2, Result.andThen_ok, if_true, h3, Sem.run_pure]
  rw [addrV_L]
  congr 2
  apply Array.ext'
  simp only [Array.toList_extract, List.extract_eq_take_drop]
  show ((recL r).drop 4).take 17 = addrL r.f r.b
  have e : (recL r).drop 4 = addrL r.f r.b ++ [.string r.tg, .string r.da] := by unfold recL; rfl
  rw [e, List.take_append_of_le_length (by rw [addrL_len r.f r.b h16]; exact Nat.le_refl _), List.take_of_length_le (by rw [addrL_len r.f r.b h16]; exact Nat.le_refl _)]
theorem rec_fields : Try.prog.fieldsOf 44 = #[{ name := "Name", type := 9, offset := 0, embedded := false, tag := "", pkgPath := "", byteOffset := 0 }, { name := "Type", type := 3, offset := 1, embedded := false, tag := "", pkgPath := "", byteOffset := 16 }, { name := "Class", type := 3, offset := 2, embedded := false, tag := "", pkgPath := "", byteOffset := 24 }, { name := "Ttl", type := 3, offset := 3, embedded := false, tag := "", pkgPath := "", byteOffset := 32 }, { name := "Addr", type := 42, offset := 4, embedded := false, tag := "", pkgPath := "", byteOffset := 40 }, { name := "Target", type := 9, offset := 21, embedded := false, tag := "", pkgPath := "", byteOffset := 64 }, { name := "Data", type := 9, offset := 22, embedded := false, tag := "", pkgPath := "", byteOffset := 80 }] := by simp only [Program.fieldsOf, Try.underlying44]
theorem and7 (r s : Rec) : (decide (r.name = s.name) && (decide (r.ty = s.ty) && (decide (r.cl = s.cl) && (decide (r.ttl = s.ttl) && (decide (r.f = s.f ∧ r.b = s.b) && (decide (r.tg = s.tg) && (decide (r.da = s.da) && true))))))) = decide (r = s) := by
  rw [Bool.eq_iff_iff]
  simp only [Bool.and_eq_true, decide_eq_true_iff, Bool.and_true]
  cases r
  cases s
  simp only [Rec.mk.injEq]
  constructor
  · rintro ⟨h1, h2, h3, h4, ⟨h5, h6⟩, h7, h8⟩
    exact ⟨h1, h2, h3, h4, h5, h6, h7, h8⟩
  · rintro ⟨h1, h2, h3, h4, h5, h6, h7, h8⟩
    exact ⟨h1, h2, h3, h4, ⟨h5, h6⟩, h7, h8⟩
theorem eq_rec_at (d : Nat) (r s : Rec) (W : World) (hr : r.b.length = 16) (hs : s.b.length = 16) : (Op.equalIn (d + 4) 44 (recV r) (recV s)).run Try.prog W = .ok (decide (r = s)) W := by
  have hf := rec_fields
  have st : (Op.equalIn (d + 4) 44 (recV r) (recV s)).run Try.prog W = (Op.eqFields (d + 3) (recL r).toArray (recL s).toArray (Try.prog.fieldsOf 44).toList).run Try.prog W :=
    run_equalIn_struct W (d + 3) _ _ _ (by simp only [Program.fieldsOf, Try.underlying44]) Try.stoodInHeld44
  obtain ⟨r0, r1, r2, r3, r5, r6⟩ := rec_cell r hr
  obtain ⟨s0, s1, s2, s3, s5, s6⟩ := rec_cell s hs
  rw [st, hf, ← and7]
  refine eqF_cons _ _ _ _ _ _ _ _ _ _ _ (by decide) (run_part_plain W plainK_str r0) (run_part_plain W plainK_str s0) (eqS (d + 2) _ _ W) ?_
  refine eqF_cons _ _ _ _ _ _ _ _ _ _ _ (by decide) (run_part_plain W plainK_int r1) (run_part_plain W plainK_int s1) (eqI (d + 2) _ _ W) ?_
  refine eqF_cons _ _ _ _ _ _ _ _ _ _ _ (by decide) (run_part_plain W plainK_int r2) (run_part_plain W plainK_int s2) (eqI (d + 2) _ _ W) ?_
  refine eqF_cons _ _ _ _ _ _ _ _ _ _ _ (by decide) (run_part_plain W plainK_int r3) (run_part_plain W plainK_int s3) (eqI (d + 2) _ _ W) ?_
  refine eqF_cons _ _ _ _ _ _ _ _ _ _ _ (by decide) (part_recA W r hr) (part_recA W s hs) (eq_addr_at d _ _ _ _ W hr hs) ?_
  refine eqF_cons _ _ _ _ _ _ _ _ _ _ _ (by decide) (run_part_plain W plainK_str r5) (run_part_plain W plainK_str s5) (eqS (d + 2) _ _ W) ?_
  exact eqF_cons _ _ _ _ _ _ _ _ _ _ _ (by decide) (run_part_plain W plainK_str r6) (run_part_plain W plainK_str s6) (eqS (d + 2) _ _ W) (eqF_nil _ _ _ _ _)
theorem run_neq_rec (r s : Rec) (W : World) (hr : r.b.length = 16) (hs : s.b.length = 16) : (binOp .neq 44 (recV r) (recV s)).run Try.prog W = .ok (.bool (!decide (r = s))) W := by
  have h := eq_rec_at 9996 r s W hr hs
  unfold recV at h ⊢
  rw [run_neq_struct, h]
  rfl
theorem guard_rec (op : BinOp) (x y : Operand) (r s : Rec) (W : World) : (eqGuard op 44 x y (recV r) (recV s)).run Try.prog W = .ok () W := run_eqGuard_agg _ _ _ _ _ _ _ Try.eqGuardType44
theorem qu_fields : Try.prog.fieldsOf 68 = #[{ name := "Name", type := 9, offset := 0, embedded := false, tag := "", pkgPath := "", byteOffset := 0 }, { name := "Type", type := 3, offset := 1, embedded := false, tag := "", pkgPath := "", byteOffset := 16 }, { name := "Class", type := 3, offset := 2, embedded := false, tag := "", pkgPath := "", byteOffset := 24 }] := by simp only [Program.fieldsOf, Try.underlying68]
theorem and3 (r s : Qu) : (decide (r.name = s.name) && (decide (r.ty = s.ty) && (decide (r.cl = s.cl) && true))) = decide (r = s) := by
  rw [Bool.eq_iff_iff]
  simp only [Bool.and_eq_true, decide_eq_true_iff, Bool.and_true]
  cases r
  cases s
  simp only [Qu.mk.injEq]
theorem eq_qu_at (d : Nat) (r s : Qu) (W : World) : (Op.equalIn (d + 4) 68 (quV r) (quV s)).run Try.prog W = .ok (decide (r = s)) W := by
  have hf := qu_fields
  have st : (Op.equalIn (d + 4) 68 (quV r) (quV s)).run Try.prog W = (Op.eqFields (d + 3) (quL r).toArray (quL s).toArray (Try.prog.fieldsOf 68).toList).run Try.prog W :=
    run_equalIn_struct W (d + 3) _ _ _ (by simp only [Program.fieldsOf, Try.underlying68]) Try.stoodInHeld68
  rw [st, hf, ← and3]
  refine eqF_cons _ _ _ _ _ _ _ _ _ _ _ (by decide) (run_part_plain W plainK_str rfl) (run_part_plain W plainK_str rfl) (eqS (d + 2) _ _ W) ?_
  refine eqF_cons _ _ _ _ _ _ _ _ _ _ _ (by decide) (run_part_plain W plainK_int rfl) (run_part_plain W plainK_int rfl) (eqI (d + 2) _ _ W) ?_
  exact eqF_cons _ _ _ _ _ _ _ _ _ _ _ (by decide) (run_part_plain W plainK_int rfl) (run_part_plain W plainK_int rfl) (eqI (d + 2) _ _ W) (eqF_nil _ _ _ _ _)
theorem run_neq_qu (r s : Qu) (W : World) : (binOp .neq 68 (quV r) (quV s)).run Try.prog W = .ok (.bool (!decide (r = s))) W := by
  have h := eq_qu_at 9996 r s W
  unfold quV at h ⊢
  rw [run_neq_struct, h]
  rfl
theorem guard_qu (op : BinOp) (x y : Operand) (r s : Qu) (W : World) : (eqGuard op 68 x y (quV r) (quV s)).run Try.prog W = .ok () W := run_eqGuard_agg _ _ _ _ _ _ _ Try.eqGuardType68
end Go.Proofs.Ytedmkdjijhflnaa
/- Contracts of the reference's sameRecords and Same of layer 9. -/
namespace Go.Proofs.Ytedmkdjijhflnaa
open Go.RowKit
set_option linter.unusedVariables false
set_option maxRecDepth 20000

theorem yields_rec {ops : Array Oper} {S : World → Prop} {op : Oper} {a : Act} {G o : Nat} {r : Rec} (h16 : Hid (r.b.length = 16)) (hS : Hid (∀ w, S w → w.rangeAt G o (recL r))) (hw : Region.wanted op (yielded ops a.tmps) = true) (x : Operand) (ho : op.op = .load 44 x) (hx : a.eval x = .pointer (some ⟨G, o, none⟩)) : YieldsIf Try.prog ops S op (recV r) a :=
  yieldsIf_load_mid hw 44 x ho G o hx (recL r) _ (fun w h => hS.out w h) Try.underlying44 rfl (by rw [rec_size, recL_len r h16.out])
theorem qu_size : (Try.prog.info? 68).map (·.size) = some 3 := by kernel_rfl
theorem yields_qu {ops : Array Oper} {S : World → Prop} {op : Oper} {a : Act} {G o : Nat} {r : Qu} (hS : Hid (∀ w, S w → w.rangeAt G o (quL r))) (hw : Region.wanted op (yielded ops a.tmps) = true) (x : Operand) (ho : op.op = .load 68 x) (hx : a.eval x = .pointer (some ⟨G, o, none⟩)) : YieldsIf Try.prog ops S op (quV r) a :=
  yieldsIf_load_mid hw 68 x ho G o hx (quL r) _ (fun w h => hS.out w h) Try.underlying68 rfl (by rw [qu_size]; rfl)
theorem agg_rec (r : Rec) : ∃ cs, recV r = .agg cs := ⟨_, rfl⟩
end Go.Proofs.Ytedmkdjijhflnaa
/- Contract of the reference's Same of layer 9. -/
namespace Go.Proofs.Ytedmkdjijhflnaa
open Go.RowKit
set_option linter.unusedVariables false
set_option maxRecDepth 20000

theorem QusAt.range {w : World} {a : Option Addr} {cap : Nat} {D : List Qu} (h : QusAt w a cap D) (k : Nat) (hk : k < D.length) : ∃ g o, a = some ⟨g, o, none⟩ ∧ g < w.heap.size ∧ w.rangeAt g (o + k * 3) (quL D[k]) := by
  obtain ⟨h1, h2, h3, h4⟩ := h
  rcases h4 with h4 | ⟨g, o, e, hg, hr⟩
  · omega
  · exact ⟨g, o, e, hg, range_at hr (S := 3) (fun d hd => rfl) k hk⟩
def Lens (m : Msg) : Prop := m.qs.length ≤ 1000000 ∧ m.an.length ≤ 1000000 ∧ m.au.length ≤ 1000000 ∧ m.mo.length ≤ 1000000
end Go.Proofs.Ytedmkdjijhflnaa
/- Contracts of slices.Equal at records and at questions. -/
namespace Go.Proofs.Ytedmkdjijhflnaa
open Go.RowKit
set_option linter.unusedVariables false
set_option maxRecDepth 20000

end Go.Proofs.Ytedmkdjijhflnaa
/- Contract of the landed wire's Same. -/
namespace Go.Proofs.Ytedmkdjijhflnaa
open Go.RowKit
set_option linter.unusedVariables false
set_option maxRecDepth 20000

end Go.Proofs.Ytedmkdjijhflnaa
/- Contracts of the landed wire's Ask, Clone and Answer. -/
namespace Go.Proofs.Ytedmkdjijhflnaa
open Go.RowKit
set_option linter.unusedVariables false
set_option maxRecDepth 20000

/-- A message that asks. -/
def askM (id : Int) (s : ByteArray) (k : Int) : Msg := ⟨id, 256, [⟨s, k, 1⟩], [], [], []⟩
set_option maxRecDepth 100000 in
set_option maxHeartbeats 2000000 in
theorem cloneR_any (a : Option Addr) (c : Nat) (D : List Rec) (w : World) (hD : RecsAt w a c D) (hl : D.length ≤ 100000) :
    Calls Try.prog 39 #[.slice a D.length c] w fun e w' => ∃ v', e = .returned v' ∧ RowR w' w.heap.size v' D ∧ Below w.heap.size w w' := by
  have q : ∀ (w : World) (a : Option Addr) (n c n' c' : Nat), (binOp .eql 24 (.slice a n c) (.slice none n' c')).run Try.prog w = .ok (.bool a.isNone) w := fun w a n c n' c' => Lib.run_eql_slice_nil w _ _ a n c n' c' Try.underlying24
  rcases hD.row with ⟨rfl, rfl⟩ | ⟨y, rfl, hr⟩
  · clear hD
    go_enter Try.func39, Try.ntmps39
    go_wp2_with fail
    go_ret
    exact ⟨_, rfl, RowR.nil _ _, Below.refl _ _⟩
  · have HR := Lib.hid hr
    have HL : Hid (([] : List Rec).length + D.length ≤ 100000) := Lib.hid (by simpa using hl)
    have HLT : Hid (∀ j u, (flatR D)[j]? = some u → (y.add j).block < w.heap.size) := Lib.hid (fun j u hu => World.block_lt_of_cell? w _ (hr j u hu))
    have H16 : Hid (All16 D) := Lib.hid (fun r hr => (hD.2.2.1 r hr).1)
    obtain ⟨N, hN⟩ : ∃ N, D.length = N := ⟨_, rfl⟩
    have HN : Hid (N = D.length) := Lib.hid hN.symm
    rw [hN]
    clear hr hl hD hN
    go_enter Try.func39, Try.ntmps39
    go_wp2_with (first
      | (refine build_step0R rfl rfl (fun W HW => ?_); have HE : Hid (RowR W w.heap.size (.slice (some ⟨w.heap.size, 0, none⟩) 0 0) []) := Lib.hid (by rw [HW.out]; exact ⟨own_emptyR w, fun r hr => by cases hr⟩); have HB : Hid (Below w.heap.size w W) := Lib.hid (by rw [HW.out]; exact (Below.refl _ _).alloc (Nat.le_refl _) _); have HX : Hid (∀ j u, (flatR D)[j]? = some u → W.cell? (y.add j) = some u) := Lib.hid (fun j u hu => (HB.out.cell (HLT.out j u hu)).trans (HR.out j u hu)); have HB2 : Hid (w.heap.size ≤ W.heap.size) := Lib.hid HB.out.size)
      | (have HE2 := HE; refine append_recsA HE2 _ _ rfl rfl rfl D rfl HN HX H16 HL HB2 (fun v' w' HO HG HF => ?_); clear HE))
    go_ret
    refine ⟨_, rfl, ?_, HB.out.grown HG.out HB.out.size (fun k hk => by cases hk; exact Nat.le_refl _)⟩
    have := HO.out
    rwa [List.nil_append] at this
/-- A message that answers. -/
def ansM (q : Msg) (D : List Rec) : Msg := ⟨q.id, 33152, q.qs, D, [], []⟩
/-- What Answer tells. -/
def AnsRet (w : World) (q : Msg) (D : List Rec) (e : Ending) (w' : World) : Prop :=
  Below w.heap.size w w' ∧ ∃ aq a1 cq c1, e = .returned (msgV (ansM q D) aq a1 none none cq c1 0 0) ∧ MsgIn w' (ansM q D) aq a1 none none cq c1 0 0
theorem RowQ.msg {w : World} {q : Msg} {D : List Rec} {b1 b2 : Nat} {v1 v2 : Value} (hq : RowQ w b1 v1 q.qs) (hr : RowR w b2 v2 D) (hfq : ∀ x ∈ q.qs, FitQ x) (hfr : ∀ x ∈ D, Fit x) : ∃ aq a1 cq c1, Value.agg #[.int .i64 q.id, .int .i64 33152, v1, v2, .slice none 0 0, .slice none 0 0] = msgV (ansM q D) aq a1 none none cq c1 0 0 ∧ MsgIn w (ansM q D) aq a1 none none cq c1 0 0 := by
  obtain ⟨aq, cq, rfl, h1⟩ := hq.qus hfq
  obtain ⟨a1, c1, rfl, h2⟩ := hr.recs hfr
  exact ⟨aq, a1, cq, c1, rfl, h1, h2, RecsAt.none0 _, RecsAt.none0 _⟩
end Go.Proofs.Ytedmkdjijhflnaa
/- The reference's layer 11: Forge; the law's as. -/
namespace Go.Proofs.Ytedmkdjijhflnaa
open Go.RowKit
set_option linter.unusedVariables false
set_option maxRecDepth 20000
set_option linter.unusedSimpArgs false

def forgeM (q : Qry) (D : List Rec) : Msg := ⟨q.id, 33152, [⟨q.nm, q.ty, 1⟩], D, [], []⟩
theorem ownQ_new (W : World) (q : Qu) : RowQ (W.alloc (.cells (quL q).toArray 68)) W.heap.size (.slice (some ⟨W.heap.size, 0, none⟩) 1 1) [q] :=
  ⟨rfl, .inr ⟨W.heap.size, 1, (quL q).toArray, rfl, Nat.le_refl _, by show (W.heap.push _)[W.heap.size]? = _; simp, Nat.le_refl _, by decide, rfl, by simp [flatQ, quL]⟩⟩
theorem RowQ.cells {w w' : World} {B : Nat} {v : Value} {D : List Qu} (h : RowQ w B v D) {G : Nat} (hG : G < B) (hk : ∀ k, k ≠ G → w'.heap[k]? = w.heap[k]?) : RowQ w' B v D := by
  obtain ⟨h1, h2⟩ := h
  refine ⟨h1, ?_⟩
  rcases h2 with h2 | ⟨g, cap, cur, e1, e2, e3, e4⟩
  · exact .inl h2
  · exact .inr ⟨g, cap, cur, e1, e2, (hk g (by omega)).trans e3, e4⟩
set_option maxRecDepth 100000 in
set_option maxHeartbeats 2000000 in
theorem refForge11_any (q : Qry) (a : Option Addr) (c : Nat) (D : List Rec) (w : World) (hA : RecsAt w a c D) :
    Calls Try.prog 8 #[qryV q, .slice a D.length c] w fun e w' => ∃ g, e = .returned (msgV (forgeM q D) (some ⟨g, 0, none⟩) a none none 1 c 0 0) ∧ w.heap.size ≤ g ∧ RowQ w' g (.slice (some ⟨g, 0, none⟩) 1 1) [⟨q.nm, q.ty, 1⟩] ∧ RecsAt w' a c D ∧ Below w.heap.size w w' := by
  obtain ⟨id, nm, ty, sv⟩ := q
  unfold qryV
  simp only
  have HA := Lib.hid hA
  obtain ⟨N, hN⟩ : ∃ N, D.length = N := ⟨_, rfl⟩
  have HN := Lib.hid hN
  have HMV : Hid (∀ g, msgV (forgeM ⟨id, nm, ty, sv⟩ D) (some ⟨g, 0, none⟩) a none none 1 c 0 0 = .agg #[.int .i64 id, .int .i64 33152, .slice (some ⟨g, 0, none⟩) 1 1, .slice a N c, .slice none 0 0, .slice none 0 0]) := Lib.hid (fun g => by unfold msgV forgeM; simp only; rw [hN]; rfl)
  rw [hN]
  obtain ⟨W0, hW0⟩ : ∃ W0, (w.alloc (.cells #[.int .i64 id, .string nm, .int .i64 ty, .int .i64 sv] 35)).alloc (.cells #[.int .i64 0, .int .i64 0, .slice none 0 0, .slice none 0 0, .slice none 0 0, .slice none 0 0] 33) = W0 := ⟨_, rfl⟩
  have HZ : Hid (CellsAt W0 (w.heap.size + 1) zM) := Lib.hid (by
    have := CellsAt.new (w.alloc (.cells #[.int .i64 id, .string nm, .int .i64 ty, .int .i64 sv] 35)) 33 zM
    rw [← hW0]; simpa using this)
  have HQ : Hid (CellsAt W0 w.heap.size [.int .i64 id, .string nm, .int .i64 ty, .int .i64 sv]) := Lib.hid (by
    have := (CellsAt.new w 35 [.int .i64 id, .string nm, .int .i64 ty, .int .i64 sv]).below ((Below.refl _ _).alloc (Nat.le_refl _) (.cells #[.int .i64 0, .int .i64 0, .slice none 0 0, .slice none 0 0, .slice none 0 0, .slice none 0 0] 33))
    rw [← hW0]; exact this)
  have HB0 : Hid (Below w.heap.size w W0) := Lib.hid (by rw [← hW0]; exact ((Below.refl _ _).alloc (Nat.le_refl _) _).alloc (by simp) _)
  have HS0 : Hid (W0.heap.size = w.heap.size + 2) := Lib.hid (by rw [← hW0]; simp)
  clear hA hN
  go_enter Try.func8, Try.ntmps8
  go_upto_region 1 with fail
  try rw [hW0]
  clear hW0
  obtain ⟨G, hG⟩ : ∃ G, w.heap.size = G := ⟨_, rfl⟩
  have HG := Lib.hid hG
  rw [hG] at HZ HQ
  try rw [hG]
  clear hG
  have hc0 := HQ.out.cell 0 _ rfl
  have hc1 := HQ.out.cell 1 _ rfl
  have hc2 := HQ.out.cell 2 _ rfl
  go_wp2_with (first | refine build_qu3 rfl _ _ _ rfl rfl rfl rfl ?_ | (refine build_quS rfl _ rfl rfl (fun W HW => ?_); have HZ1 : Hid (CellsAt W (G + 1) zM) := Lib.hid (by rw [HW.out]; exact HZ.out.below ((Below.refl _ _).alloc (Nat.le_refl _) _))) | (have HZ2 := HZ1; refine store_msg HZ2 rfl _ _ rfl rfl rfl rfl rfl rfl (fun V HV HVC => ?_); clear HZ1))
  have hs := HS0.out
  have hg := HG.out
  have hb1 : Below W0.heap.size W0 W := by rw [HW.out]; exact (Below.refl _ _).alloc (Nat.le_refl _) _
  have HB1 : Hid (Below w.heap.size w V) := Lib.hid (by rw [HV.out]; exact below_cells (by omega) _ _ _ (chain HB0.out hb1))
  refine bodyPost_ret (v := msgV (forgeM ⟨id, nm, ty, sv⟩ D) (some ⟨W0.heap.size, 0, none⟩) a none none 1 c 0 0) (by rw [HMV.out]; exact results_msg Try.results8 rfl HVC.out rfl) rfl ⟨_, rfl, by omega, ?_, HA.out.below HB1.out, HB1.out⟩
  refine RowQ.cells (w := W) (by rw [HW.out]; exact ownQ_new W0 ⟨nm, ty, 1⟩) (G := G + 1) (by omega) (fun k hk => ?_)
  rw [HV.out]
  exact heap_setCells_other _ _ _ _ _ hk
set_option maxRecDepth 100000 in
theorem as11_any (q : Qry) (w : World) : Calls Try.prog 9 #[qryV q] w fun e w' => e = .returned (qryV q) ∧ Below w.heap.size w w' := by
  obtain ⟨id, nm, ty, sv⟩ := q
  unfold qryV
  simp only
  go_enter Try.func9, Try.ntmps9
  go_wp2_with fail
  refine bodyPost_ret (results_of (w := _) Try.results9 rfl (by
    have := CellsAt.new (w.alloc (.cells #[.int .i64 id, .string nm, .int .i64 ty, .int .i64 sv] 23)) 35 [.int .i64 id, .string nm, .int .i64 ty, .int .i64 sv]
    rwa [World.size_alloc] at this) Try.underlying35 rfl (by kernel_rfl)) rfl ⟨rfl, ((Below.refl _ _).alloc (Nat.le_refl _) _).alloc (by simp) _⟩
end Go.Proofs.Ytedmkdjijhflnaa
/- The reference's layer 11: Tell. -/
namespace Go.Proofs.Ytedmkdjijhflnaa
open Go.RowKit
set_option linter.unusedVariables false
set_option maxRecDepth 20000
set_option linter.unusedSimpArgs false

/-- What is told, as a value. -/
def tldL (x : Tld) (v : Value) : List Value := [.int .i64 x.e, v, .int .i64 x.ttl, .string x.nx, .int .i64 (x.st : Int)]
def TellRet (w : World) (x : Tld) (e : Ending) (w' : World) : Prop :=
  ∃ v, e = .returned (.agg (tldL x v).toArray) ∧ RowA w' w.heap.size v x.ad ∧ Below w.heap.size w w'
theorem RowA.cells {w w' : World} {B : Nat} {v : Value} {D : List Ad} (h : RowA w B v D) {G : Nat} (hG : G < B) (hk : ∀ k, k ≠ G → w'.heap[k]? = w.heap[k]?) : RowA w' B v D := h.kept2 (fun g hg => hk g (by have := (h.lt g hg).1; omega))
theorem meas_lt {N j : Nat} {x : Int} (hj : j < N) (h : x < 0 ∨ (j : Int) + 1 ≤ x) : (if x < 0 then 0 else N - x.toNat) < (if (j : Int) < 0 then 0 else N - ((j : Int)).toNat) := by
  rw [if_neg (show ¬ (j : Int) < 0 by omega)]
  by_cases hx : x < 0
  · rw [if_pos hx]; omega
  · rw [if_neg hx]; omega
abbrev zT : List Value := [.int .i64 0, .slice none 0 0, .int .i64 0, .string ⟨#[]⟩, .int .i64 0]
end Go.Proofs.Ytedmkdjijhflnaa
/- The landed match: addresses. -/
namespace Go.Proofs.Ytedmkdjijhflnaa
open Go.RowKit
set_option linter.unusedVariables false
set_option maxRecDepth 20000
set_option linter.unusedSimpArgs false

theorem CellsAt.same {w w' : World} {G : Nat} {vs : List Value} (h : CellsAt w G vs) (hs : w.heap.size ≤ w'.heap.size) (hk : w'.heap[G]? = w.heap[G]?) : CellsAt w' G vs :=
  ⟨Nat.lt_of_lt_of_le h.lt hs, fun j u hu => by rw [World.cell?_of_block (w := w) (a := ⟨G, 0 + j, none⟩) hk]; exact h.range j u hu, fun j hj => by
    rw [World.cell?_of_block (w := w) (a := ⟨G, 0 + j, none⟩) hk, World.frozen?_of_block (w := w) (a := ⟨G, 0 + j, none⟩) hk]; exact h.there j hj⟩
theorem RowA.isSlice {w : World} {B : Nat} {v : Value} {D : List Ad} (h : RowA w B v D) : ∃ ad n c, v = .slice ad n c := by
  obtain ⟨a, c, e, _⟩ := h.ads
  exact ⟨a, _, c, e⟩
theorem tell_take {xs : List Rec} {k : Nat} (hk : k < xs.length) (x : Int × List Ad) : tellAll x (xs.take (k + 1)) = tellStep (tellAll x (xs.take k)) xs[k] := by
  unfold tellAll
  rw [List.take_succ_eq_append_getElem hk, List.foldl_append]
  rfl
/-- Between two rounds: the variables addrs and ttl. -/
def AdsInv (w : World) (B : Nat) (x : Int × List Ad) (W : World) : Prop := ∃ v, CellsAt W w.heap.size [v] ∧ CellsAt W (w.heap.size + 1) [.int .i64 x.1] ∧ RowA W B v x.2 ∧ Below w.heap.size w W
theorem AdsInv.put {w W : World} {B : Nat} {x : Int × List Ad} (h : AdsInv w B x W) {l : Nat} (o : Obj) (h1 : w.heap.size + 1 < l) (h2 : l < B) : AdsInv w B x (W.putObj l o) := by
  obtain ⟨v, a, b, c, d⟩ := h
  refine ⟨v, a.same (by simp) (World.putObj_heap_other (by omega)), b.same (by simp) (World.putObj_heap_other (by omega)), c.kept2 (fun g hg => World.putObj_heap_other (by have := (c.lt g hg).1; omega)), d.trans (below_put _ (by omega))⟩
theorem AdsInv.below {w W W' : World} {B : Nat} {x : Int × List Ad} (h : AdsInv w B x W) (hb : Below W.heap.size W W') : AdsInv w B x W' := by
  obtain ⟨v, a, b, c, d⟩ := h
  exact ⟨v, a.below hb, b.below hb, c.below hb, d.trans (hb.mono d.size)⟩
def AddrsRet (w : World) (x : Int × List Ad) (e : Ending) (w' : World) : Prop := ∃ v, e = .returned (.tuple #[v, .int .i64 x.1]) ∧ RowA w' w.heap.size v x.2 ∧ Below w.heap.size w w'
set_option maxRecDepth 100000 in
set_option maxHeartbeats 4000000 in
theorem addresses_any (nm : ByteArray) (kd : Int) (a : Option Addr) (c : Nat) (D : List Rec) (w : World) (hA : RecsAt w a c D) (hD : All2 D) (hnm : nm.size ≤ 2000000) (hl : D.length ≤ 900) :
    Calls Try.prog 22 #[.string nm, .int .i64 kd, .slice a D.length c] w (AddrsRet w (tellAll (604800, []) (D.filter (isRec nm kd)))) := by
  obtain ⟨W0, hW0⟩ : ∃ W0, (w.alloc (.cells #[.slice none 0 0] 27)).alloc (.cells #[.int .i64 604800] 3) = W0 := ⟨_, rfl⟩
  have HB0 : Hid (Below w.heap.size w W0) := Lib.hid (by rw [← hW0]; exact ((Below.refl _ _).alloc (Nat.le_refl _) _).alloc (by simp) _)
  have HS0 : Hid (W0.heap.size = w.heap.size + 2) := Lib.hid (by rw [← hW0]; simp)
  have HA0 : Hid (CellsAt W0 w.heap.size [.slice none 0 0]) := Lib.hid (by rw [← hW0]; exact (CellsAt.new w 27 [.slice none 0 0]).below ((Below.refl _ _).alloc (Nat.le_refl _) _))
  have HC0 : Hid (CellsAt W0 (w.heap.size + 1) [.int .i64 604800]) := Lib.hid (by
    have := CellsAt.new (w.alloc (.cells #[.slice none 0 0] 27)) 3 [.int .i64 604800]
    rw [← hW0]; simpa using this)
  have HCN := Lib.hid (counting_any nm kd a c D W0 (hA.below HB0.out))
  have HTG := fun V => fun (hC : CountAt V (W0.heap.size + 2) (W0.heap.size + 1) W0.heap.size a c D nm kd) => Lib.hid (count_tells (W0.heap.size + 2) (W0.heap.size + 1) W0.heap.size a c D nm kd [w.heap.size, w.heap.size + 1] V hC (by have := HS0.out; simp; omega) (by have := HS0.out; simp; omega) (by have := HS0.out; simp; omega) (by
    rcases hA.2.2.2 with e | ⟨g, o, e, hg, _⟩
    · exact .inl e
    · exact .inr fun x hx => by rw [e] at hx; cases hx; simp; omega) hD hnm hl)
  have HFT : Hid (∀ r ∈ D.filter (isRec nm kd), r.b.length = 16) := Lib.hid (fun r hr => (hA.2.2.1 r (List.mem_filter.1 hr).1).1)
  have HLN : Hid ((D.filter (isRec nm kd)).length ≤ 900) := Lib.hid (Nat.le_trans (List.length_filter_le _ _) hl)
  obtain ⟨xs, hxs⟩ : ∃ xs, D.filter (isRec nm kd) = xs := ⟨_, rfl⟩
  rw [hxs] at HFT HLN ⊢
  simp only [hxs] at HTG
  clear hA hD hnm hl hxs
  obtain ⟨N, hN⟩ : ∃ N, D.length = N := ⟨_, rfl⟩
  rw [hN] at HCN ⊢
  clear hN
  refine (callsIn_wide (n := 0)).1 (callsIn_of_wp_marks Try.func22 rfl trivial (wpIn_wide.2 ?_) rfl)
  simp only [Try.ntmps22, List.size_toArray, List.length_cons, List.length_nil, Nat.reduceAdd, Nat.reduceSub, Array.replicate_succ, Array.replicate_zero, List.push_toArray, List.append_toArray, List.nil_append, List.cons_append]
  go_upto_region 3 with fail
  try rw [hW0]
  clear hW0
  go_wp2_with fail
  refine HCN.out.mono ?_
  rintro e w1 ⟨rfl, hc1, hb1, hs1⟩
  have qf := func_nil
  have HS1 : Hid (w1.heap.size = w.heap.size + 5) := Lib.hid (by rw [hs1, HS0.out])
  have HT1 := HTG w1 hc1
  have HI1 : Hid (AdsInv w (w1.heap.size + 2) (604800, []) w1) := Lib.hid ⟨.slice none 0 0, HA0.out.below hb1, HC0.out.below hb1, RowA.nil _ _, chain HB0.out hb1⟩
  clear hc1 hb1 hs1 HCN HTG
  go_wp2_with fail
  refine range_go (gf := 46) (lb := #[.pointer (some ⟨W0.heap.size + 2, 0, none⟩), .pointer (some ⟨W0.heap.size + 1, 0, none⟩), .pointer (some ⟨W0.heap.size, 0, none⟩)]) rfl (enters_of Try.func46 (by kernel_rfl) rfl) xs recV [w.heap.size, w.heap.size + 1] (by have := HS1.out; simp; omega) w1 HT1.out (Below.refl _ _)
    (fun k W => AdsInv w (w1.heap.size + 2) (tellAll (604800, []) (xs.take k)) W)
    (fun k A B h hb => by
      rcases hb with ⟨l, o, h1, h2, rfl⟩ | hb
      · exact h.put o (by have := HS1.out; omega) h2
      · exact h.below hb) HI1.out ?round ?done
  case round =>
    intro k hk W hlW hI
    obtain ⟨x, hx⟩ : ∃ x, xs[k] = x := ⟨_, rfl⟩
    have HTK := Lib.hid (tell_take hk (604800, []))
    have H16 : Hid (x.b.length = 16) := Lib.hid (HFT.out x (by rw [← hx]; exact List.getElem_mem hk))
    have HAL : Hid ((tellAll (604800, []) (xs.take k)).2.length ≤ 900) := Lib.hid (by
      have h1 := tell_len (xs.take k) (604800, [])
      have h2 := List.length_take_le k xs
      have h3 := HLN.out
      simp only [List.length_nil, Nat.zero_add] at h1
      omega)
    rw [hx] at HTK ⊢
    have HZ := Lib.hid (rec_zeroed W)
    have HLW := Lib.hid hlW
    clear hk hx hlW hI qf
    refine round_region rfl (fun ⟨_, _, h⟩ => h) ?_
    simp only [List.setIfInBounds_toArray, List.set_cons_succ, List.set_cons_zero]
    go_wp2_with (refine store_rec HZ _ _ H16 rfl rfl rfl rfl (fun W3 HW3 HE3 => ?_))
    refine ⟨below_newR HW3, fun w₂ hf2 hI2 => ?_⟩
    have HX3 : Hid (RecAt w₂ W.heap.size x) := Lib.hid ⟨H16.out, Nat.lt_of_lt_of_le HE3.out.lt hf2.size, range_foot hf2 HE3.out.range HE3.out.lt (by have := HLW.out; simp; omega), fun j hj => by
      rw [World.cell?_of_block (w := W3) (a := ⟨W.heap.size, 0 + j, none⟩) (hf2.keep _ HE3.out.lt (by have := HLW.out; simp; omega)), World.frozen?_of_block (w := W3) (a := ⟨W.heap.size, 0 + j, none⟩) (hf2.keep _ HE3.out.lt (by have := HLW.out; simp; omega))]; exact HE3.out.there j hj⟩
    generalize tellAll (604800, []) (xs.take k) = y at *
    obtain ⟨T, acc⟩ := y
    obtain ⟨v, ha, hc, hr, hb⟩ := hI2
    simp only at hc hr HAL
    obtain ⟨av, cv, rfl, hav⟩ := hr.ads
    have HA2 := Lib.hid ha
    have HC2 := Lib.hid hc
    have HR2 := Lib.hid hr
    have HB2 := Lib.hid hb
    have HWW : Hid (w1.heap.size + 2 ≤ W.heap.size ∧ W.heap.size < w₂.heap.size) := Lib.hid ⟨HLW.out, HX3.out.lt⟩
    obtain ⟨R, hR⟩ : ∃ R, W.heap.size = R := ⟨_, rfl⟩
    rw [hR] at HX3 HWW
    try rw [hR]
    clear hR hf2 ha hc hr hb hav HZ HE3 HLW HW3
    have c0 := HC2.out.cell 0 _ rfl
    have f0 := HC2.out.live 0 (by simp)
    have t3 : w₂.cell? ⟨R, 3, none⟩ = some (.int .i64 x.ttl) := HX3.out.parts.ttl
    refine wpIn_block (wpIn_seq ?_)
    refine round_region rfl (fun ⟨_, _, h⟩ => by cases h.1) ?_
    go_wp2_with (refine min_step rfl _ _ rfl rfl rfl ?_)
    obtain ⟨V1, hV1⟩ : ∃ V1, w₂.setCell ⟨w.heap.size + 1, 0, none⟩ (.int .i64 (min T x.ttl)) = V1 := ⟨_, rfl⟩
    have hlw := HWW.out
    have hs1 := HS1.out
    have HK1 : Hid (Keep (w1.heap.size + 2) [w.heap.size, w.heap.size + 1] w₂ V1) := Lib.hid (by
      have hb : Below w.heap.size w₂ V1 := by rw [← hV1]; exact (Below.refl _ _).setCell (by show w.heap.size ≤ w.heap.size + 1; omega) _
      refine ⟨hb.os, hb.tape, hb.output, hb.size, fun j _ hn => ?_⟩
      simp at hn
      rw [← hV1]; exact heap_setCell_otherM _ _ _ _ _ hn.2)
    have HA3 : Hid (CellsAt V1 w.heap.size [.slice av acc.length cv]) := Lib.hid (by rw [← hV1]; exact HA2.out.other (by omega) _ _)
    have HC3 : Hid (CellsAt V1 (w.heap.size + 1) [.int .i64 (min T x.ttl)]) := Lib.hid (by rw [← hV1]; exact HC2.out.set 0 _ (by simp))
    have HR3 : Hid (RowA V1 (w1.heap.size + 2) (.slice av acc.length cv) acc) := Lib.hid (HR2.out.kept2 (fun g hg => by rw [← hV1]; exact heap_setCell_otherM _ _ _ _ _ (by have := (HR2.out.lt g hg).1; omega)))
    have HB3 : Hid (Below w.heap.size w V1) := Lib.hid (by rw [← hV1]; exact HB2.out.setCell (by show w.heap.size ≤ w.heap.size + 1; omega) _)
    have HX4 : Hid (RecAt V1 R x) := Lib.hid (by rw [← hV1]; exact HX3.out.other (by omega) _ _)
    have HWW2 : Hid (w1.heap.size + 2 ≤ R ∧ R < V1.heap.size) := Lib.hid ⟨hlw.1, HX4.out.lt⟩
    try rw [hV1]
    clear hV1 c0 f0 t3 HA2 HC2 HR2 HB2 HX3 HWW hlw hs1
    have HAW : Hid (V1.rangeAt R 4 (addrL x.f x.b)) := Lib.hid (by have := HX4.out.parts.addr; simpa using this)
    have HHS : Hid (Calls Try.prog 37 #[.slice av acc.length cv, addrV x.f x.b] V1 fun e w' => e = .returned (.bool (decide ((x.f, x.b) ∈ acc))) ∧ Below V1.heap.size V1 w') := Lib.hid (by
      obtain ⟨a2, c2, e2, h2⟩ := HR3.out.ads
      cases e2
      exact contains_any av cv acc (x.f, x.b) V1 h2.1 H16.out)
    have HCL : Hid (acc.length ≤ 900) := HAL
    obtain ⟨M, hM⟩ : ∃ M, acc.length = M := ⟨_, rfl⟩
    have HM2 := Lib.hid hM
    rw [hM] at HA3 HR3 HHS
    try rw [hM]
    clear hM
    have c1 := HA3.out.cell 0 _ rfl
    obtain ⟨T1, hT1⟩ : ∃ T1, min T x.ttl = T1 := ⟨_, rfl⟩
    have HTK2 : Hid (tellAll (604800, []) (xs.take (k + 1)) = (T1, if (x.f, x.b) ∈ acc then acc else acc ++ [(x.f, x.b)])) := Lib.hid (by rw [HTK.out, ← hT1]; rfl)
    rw [hT1] at HC3
    try rw [hT1]
    clear hT1 HTK
    refine wpIn_seq ?_
    refine round_region rfl (fun ⟨_, _, h⟩ => by cases h.1) ?_
    go_wp2_with (refine load_addr_o H16 HAW _ rfl rfl rfl ?_)
    refine HHS.out.mono ?_
    rintro e V2 ⟨rfl, hb2⟩
    have HK2 : Hid (Keep (w1.heap.size + 2) [w.heap.size, w.heap.size + 1] w₂ V2) := Lib.hid (HK1.out.trans (Keep.ofBelow _ hb2 (by have := HWW2.out; omega)))
    have HA4 := Lib.hid (HA3.out.below hb2)
    have HC4 := Lib.hid (HC3.out.below hb2)
    have HR4 := Lib.hid (HR3.out.below hb2)
    have HB4 : Hid (Below w.heap.size w V2) := Lib.hid (HB3.out.trans (hb2.mono HB3.out.size))
    have HX5 := Lib.hid (HX4.out.below hb2)
    have HWW3 : Hid (w1.heap.size + 2 ≤ R ∧ R < V2.heap.size) := Lib.hid ⟨HWW2.out.1, HX5.out.lt⟩
    clear hb2 HK1 HA3 HC3 HR3 HB3 HX4 HAW HHS HWW2 c1
    by_cases hin : (x.f, x.b) ∈ acc
    · have hdi : decide ((x.f, x.b) ∈ acc) = true := decide_eq_true hin
      rw [hdi]
      have HTK3 : Hid (tellAll (604800, []) (xs.take (k + 1)) = (T1, acc)) := Lib.hid (by rw [HTK2.out, if_pos hin])
      clear hin hdi HTK2
      go_wp2_with fail
      refine wpIn_cond_false rfl (wpIn_skip ?_)
      refine ⟨rfl, HK2.out, ?_⟩
      rw [HTK3.out]
      exact ⟨_, HA4.out, HC4.out, HR4.out, HB4.out⟩
    · have hdi : decide ((x.f, x.b) ∈ acc) = false := decide_eq_false hin
      rw [hdi]
      have HTK3 : Hid (tellAll (604800, []) (xs.take (k + 1)) = (T1, acc ++ [(x.f, x.b)])) := Lib.hid (by rw [HTK2.out, if_neg hin])
      clear hin hdi HTK2
      go_wp2_with fail
      refine wpIn_cond_true rfl ?_
      have HAW : Hid (V2.rangeAt R 4 (addrL x.f x.b)) := Lib.hid (by have := HX5.out.parts.addr; simpa using this)
      have c1 := HA4.out.cell 0 _ rfl
      have HY : Hid (_root_.Go.Proofs.Ytedmkdjijhflnaa.H16 [(x.f, x.b)]) := Lib.hid (fun y hy => by rw [List.mem_singleton.1 hy]; exact H16.out)
      have H16b : Hid (((x.f, x.b) : Ad).2.length = 16) := Lib.hid H16.out
      have HM1 : Hid (1 = [((x.f, x.b) : Ad)].length) := Lib.hid rfl
      have HLE : Hid (acc.length + [((x.f, x.b) : Ad)].length ≤ 1000) := Lib.hid (by have := HCL.out; simp; omega)
      have HS3 : Hid (w1.heap.size + 2 ≤ V2.heap.size) := Lib.hid (by have := HWW3.out; omega)
      have HFW : Hid (∀ W5, W5 = V2.alloc (.cells (adL (x.f, x.b)).toArray 42) → Below V2.heap.size V2 W5 ∧ RowA W5 (w1.heap.size + 2) (.slice av M cv) acc ∧ W5.rangeAt V2.heap.size 0 (flatA [(x.f, x.b)]) ∧ w1.heap.size + 2 ≤ W5.heap.size) := Lib.hid (fun W5 e => by
        have hb : Below V2.heap.size V2 W5 := by rw [e]; exact (Below.refl _ _).alloc (Nat.le_refl _) _
        exact ⟨hb, HR4.out.below hb, by rw [e]; exact ad_range _ _, Nat.le_trans HS3.out hb.size⟩)
      have HF6 : Hid (∀ W5 w6, Below V2.heap.size V2 W5 → RowA W5 (w1.heap.size + 2) (.slice av M cv) acc → W5.grownBy w6 (Value.slice av M cv).ownBlock → Below (w1.heap.size + 2) V2 w6 ∧ CellsAt w6 w.heap.size [.slice av M cv] ∧ CellsAt w6 (w.heap.size + 1) [.int .i64 T1]) := Lib.hid (fun W5 w6 hb ho hg => by
        have hs1 := HS1.out
        have h6 : Below (w1.heap.size + 2) V2 w6 := (hb.mono HS3.out).grown hg (Nat.le_trans HS3.out hb.size) (fun k hk => (ho.lt k hk).1)
        exact ⟨h6, HA4.out.upto h6 (by omega), HC4.out.upto h6 (by omega)⟩)
      refine round_region rfl (fun ⟨_, _, h⟩ => by cases h.1) ?_
      go_wp2_with (first
        | refine load_addr_o H16 HAW _ rfl rfl rfl ?_
        | (refine build_adM (r := (x.f, x.b)) H16b rfl _ rfl rfl (fun W5 HW5 => ?_); obtain ⟨hb5, ho5, hr5, hs5⟩ := HFW.out W5 HW5.out; have HB5 := Lib.hid hb5; have HO5 := Lib.hid ho5; have HR5 := Lib.hid hr5; have HS5 := Lib.hid hs5; clear hb5 ho5 hr5 hs5)
        | (at_builtin; refine append_ads HO5 _ _ rfl rfl rfl [(x.f, x.b)] rfl HM1 HR5 HY HLE HS5 (fun v6 w6 HO6 HG6 => ?_); obtain ⟨ad6, n6, cc6, rfl⟩ := HO6.out.isSlice; obtain ⟨hb6, hx6, hc6⟩ := HF6.out W5 w6 HB5.out HO5.out HG6.out; have HB6 := Lib.hid hb6; have HA6 := Lib.hid hx6; have HC6 := Lib.hid hc6; clear hb6 hx6 hc6; have c6 := HA6.out.cell 0 _ rfl; have f6 := HA6.out.live 0 (by simp)))
      have hs1 := HS1.out
      refine ⟨?_, ?_⟩
      · have hk := HK2.out.trans (Keep.ofBelow _ HB6.out (Nat.le_refl _))
        refine ⟨hk.os, hk.tape, hk.output, by simpa using hk.size, fun j hj hn => ?_⟩
        have hn2 := hn
        simp at hn2
        rw [heap_setCell_otherM _ _ _ _ _ hn2.1]
        exact hk.keep j hj hn
      · rw [HTK3.out]
        refine ⟨_, HA6.out.set 0 _ (by simp), HC6.out.other (by omega) _ _, HO6.out.kept2 (fun g hg => heap_setCell_otherM _ _ _ _ _ (by have := (HO6.out.lt g hg).1; omega)), ?_⟩
        exact ((HB4.out.trans (HB6.out.mono (by omega)))).setCell (Nat.le_refl _) _
  case done =>
    intro W hI hD
    rw [List.take_length] at hI
    obtain ⟨v, ha, hc, hr, hb⟩ := hI
    obtain ⟨ad, n, cc, rfl⟩ := hr.isSlice
    have HAW := Lib.hid (ha.below (Below.refl _ _).drew)
    have HCW := Lib.hid (hc.below (Below.refl _ _).drew)
    have HRW := Lib.hid (hr.below (Below.refl _ _).drew)
    have HBW : Hid (Below w.heap.size w W.drew) := Lib.hid hb.drew
    have HDW : Hid (W.drew.heap[w1.heap.size]? = some (.deferred (some []))) := Lib.hid hD
    clear ha hc hr hb hD qf
    generalize tellAll (604800, []) xs = y at *
    obtain ⟨S, hS⟩ : ∃ S : World → Prop, (fun V => V = W.drew) = S := ⟨_, rfl⟩
    have C1 : Hid (∀ w', S w' → w'.cell? ⟨w.heap.size, 0, none⟩ = some (.slice ad n cc)) := Lib.hid (fun w' h => by rw [← hS] at h; rw [h]; exact HAW.out.cell 0 _ rfl)
    have C2 : Hid (∀ w', S w' → w'.cell? ⟨w.heap.size + 1, 0, none⟩ = some (.int .i64 y.1)) := Lib.hid (fun w' h => by rw [← hS] at h; rw [h]; exact HCW.out.cell 0 _ rfl)
    have HSI : Hid (S W.drew) := Lib.hid (by rw [← hS])
    have HSO : Hid (∀ V, S V → V = W.drew) := Lib.hid (fun V h => by rw [← hS] at h; exact h)
    clear hS
    go_upto_region 8 with fail
    refine wp_region_noPanic ?_
    refine wp_region_held_drew (S := S) (by kernel_rfl) HSI.out (fun hHeld => ?_)
    refine wpAnyH_take (i := 0) (v := ?_) rfl (by kernel_rfl) (by kernel_rfl) (by kernel_rfl) (fun _ _ _ h => h) (Or.inl ⟨by rfl, ?_⟩) (by assumption) ?_
    rotate_left
    · (intro w hSw; have hc0 := C1.out w hSw; go_simp; try (with_reducible rfl))
    try simp only [Act.put, List.getElem_toArray, List.getElem_cons_zero, List.setIfInBounds_toArray, List.set_cons_zero, List.set_cons_succ]
    refine wpAnyH_take (i := 1) (v := ?_) rfl (by kernel_rfl) (by kernel_rfl) (by kernel_rfl) (fun _ _ _ h => h) (Or.inl ⟨by rfl, ?_⟩) (by assumption) ?_
    rotate_left
    · (intro w hSw; have hc0 := C2.out w hSw; go_simp; try (with_reducible rfl))
    try simp only [Act.put, List.getElem_toArray, List.getElem_cons_zero, List.getElem_cons_succ, List.setIfInBounds_toArray, List.set_cons_zero, List.set_cons_succ]
    refine wpAnyH_take (i := 2) (v := ?_) rfl (by kernel_rfl) (by kernel_rfl) (by kernel_rfl) (fun _ _ _ h => h) (Or.inl ⟨by rfl, ?_⟩) (by assumption) ?_
    rotate_left
    · (intro w hSw; go_simp; try (with_reducible rfl))
    try simp only [Act.put, List.getElem_toArray, List.getElem_cons_zero, List.getElem_cons_succ, List.setIfInBounds_toArray, List.set_cons_zero, List.set_cons_succ]
    refine wpAnyH_take (i := 3) (v := ?_) rfl (by kernel_rfl) (by kernel_rfl) (by kernel_rfl) (fun _ _ _ h => h) (Or.inl ⟨by rfl, ?_⟩) (by assumption) ?_
    rotate_left
    · (intro w hSw; go_simp; try (with_reducible rfl))
    try simp only [Act.put, List.getElem_toArray, List.getElem_cons_zero, List.getElem_cons_succ, List.setIfInBounds_toArray, List.set_cons_zero, List.set_cons_succ]
    refine wpAnyH_done (by kernel_rfl) ?_ _
    refine NoPanic.normal ?_
    clear C1 C2 HSI HSO hHeld
    go_wp2_with fail
    have hs1 := HS1.out
    have hb : Below w1.heap.size W.drew (W.drew.putObj w1.heap.size (.deferred none)) := below_put _ (Nat.le_refl _)
    refine ⟨by simp, .inl ⟨_, _, rfl, run_takeDeferred HDW.out, ?_⟩⟩
    exact ⟨_, results_tmp2 rfl _ _ _, _, rfl, (HRW.out.kept2 (fun g hg => World.putObj_heap_other (by have := (HRW.out.lt g hg).1; omega))).mono (by omega), HBW.out.trans (hb.mono (by omega))⟩
end Go.Proofs.Ytedmkdjijhflnaa
/- The landed match: Chain. -/
namespace Go.Proofs.Ytedmkdjijhflnaa
open Go.RowKit
set_option linter.unusedVariables false
set_option maxRecDepth 20000
set_option linter.unusedSimpArgs false

theorem RecAt.same {w w' : World} {G : Nat} {r : Rec} (h : RecAt w G r) (hs : w.heap.size ≤ w'.heap.size) (hk : w'.heap[G]? = w.heap[G]?) : RecAt w' G r :=
  ⟨h.len, Nat.lt_of_lt_of_le h.lt hs, fun j u hu => by rw [World.cell?_of_block (w := w) (a := ⟨G, 0 + j, none⟩) hk]; exact h.range j u hu, fun j hj => by
    rw [World.cell?_of_block (w := w) (a := ⟨G, 0 + j, none⟩) hk, World.frozen?_of_block (w := w) (a := ⟨G, 0 + j, none⟩) hk]; exact h.there j hj⟩
set_option maxRecDepth 100000 in
set_option maxHeartbeats 2000000 in
theorem chain_any (a : Option Addr) (c : Nat) (D : List Rec) (nm : ByteArray) (most : Int) (w : World) (hA : RecsAt w a c D) (hD : All2 D) (hnm : nm.size ≤ 2000000) (hm : most ≤ 1000) (hl : D.length ≤ 900) :
    Calls Try.prog 21 #[.string nm, .slice a D.length c, .int .i64 most] w (ChainRet w (chainP D most.toNat nm 604800)) := by
  obtain ⟨i0, hi0, hz0, hz1, hz2⟩ := info_parts Try.infoString
  have HA := Lib.hid hA
  have HD := Lib.hid hD
  have HST := fun (x : ByteArray) (W : World) (hx : x.size ≤ 2000000) (hb : Below w.heap.size w W) => Lib.hid (step_any x a c D W (hA.below hb) hD hx hl)
  obtain ⟨N, hN⟩ : ∃ N, D.length = N := ⟨_, rfl⟩
  rw [hN] at HST ⊢
  have HFI : Hid (∀ r ∈ D, r.b.length = 16) := Lib.hid (fun r hr => (hA.2.2.1 r hr).1)
  obtain ⟨R, hR⟩ : ∃ R, chainP D most.toNat nm 604800 = R := ⟨_, rfl⟩
  have HR : Hid (RowT (w.alloc (.cells #[.string nm] 9)) w.heap.size (.slice (some ⟨w.heap.size, 0, none⟩) 1 1) [nm] ∧ Below w.heap.size w (w.alloc (.cells #[.string nm] 9))) := Lib.hid ⟨RowT.one _ _, (Below.refl _ _).alloc (Nat.le_refl _) _⟩
  have HRR := Lib.hid hR
  have HNM := Lib.hid hnm
  rw [hR]
  clear hR hA hN hD hnm hl HA
  go_enter Try.func21, Try.ntmps21
  go_wp2_with fail
  go_loopw [9, 10, 11, 12] (fun v t _ _ wr => ∃ (n : Nat) (pre : List ByteArray) (last : ByteArray) (T : Int), t = .int .i64 T ∧ n ≤ most.toNat ∧ Hid (pre.length + n = most.toNat ∧ last.size ≤ 2000000 ∧ (pre ++ (chainP D n last T).1, (chainP D n last T).2) = R) ∧ Hid (RowT wr w.heap.size v (pre ++ [last]) ∧ Below w.heap.size w wr)) (fun v _ _ _ _ => 2000 - (match v with | .slice _ n _ => n | _ => 0))
  case atStart => exact ⟨most.toNat, [], nm, 604800, rfl, Nat.le_refl _, Lib.hid ⟨by simp, HNM.out, by simpa using HRR.out⟩, HR⟩
  case round =>
    clear HR HRR
    obtain ⟨n, pre, last, T, rfl, hn, HI, HW⟩ := hrel
    obtain ⟨g, cap, rfl, hg, hlc⟩ := HW.out.1.last
    obtain ⟨L, hL⟩ : ∃ L, pre.length = L := ⟨_, rfl⟩
    have HL := Lib.hid hL
    have hLn : L + n = most.toNat := by rw [← hL]; exact HI.out.1
    have hLm : L ≤ 1000 := by omega
    rw [hL] at hlc ⊢
    have HO := HST last wr HI.out.2.1 HW.out.2
    clear hL
    have hi1 : (0 : Int) ≤ (L : Int) := by omega
    have hi2 : (L : Int) < (L : Int) + 1 := by omega
    cases enx : nextR D last with
    | none =>
      have HE : Hid ((pre ++ [last], T, true) = R) := Lib.hid (by have := HI.out.2.2; rw [chain_none enx] at this; exact this)
      rw [enx] at HO
      clear enx HST
      go_wp2_with fail
      refine HO.out.mono ?_
      rintro e w1 ⟨rfl, hb⟩
      have HW1 : Hid (RowT w1 w.heap.size (.slice (some ⟨g, 0, none⟩) (L + 1) cap) (pre ++ [last]) ∧ Below w.heap.size w w1) := Lib.hid (by
        have h1 := HW.out.1.below hb
        rw [HL.out] at h1
        exact ⟨h1, chain HW.out.2 hb⟩)
      have HZ := Lib.hid (rec_zeroed w1)
      have Z16 : Hid (zR.b.length = 16) := Lib.hid rfl
      unfold stepV
      clear hb HO HW hlc
      go_wp2_with (refine store_rec HZ _ _ Z16 rfl rfl rfl rfl (fun W3 HW3 HE3 => ?_))
      have hb3 := below_newR HW3
      have hr3 := HW1.out.1.below hb3
      have hbw := chain HW1.out.2 hb3
      go_ret3
      rw [← HE.out]
      exact ⟨_, rfl, hr3, hbw⟩
    | some r =>
      have HE : Hid (n = 0 → (pre ++ [last], T, false) = R) := Lib.hid (fun e => by have := HI.out.2.2; rw [e, chain_zero enx] at this; exact this)
      have HS : Hid (∀ m, n = m + 1 → ((pre ++ [last]) ++ (chainP D m r.tg (min T r.ttl)).1, (chainP D m r.tg (min T r.ttl)).2) = R) := Lib.hid (fun m e => by have := HI.out.2.2; rw [e, chain_succ enx] at this; rw [← this]; simp)
      have HT : Hid (r.tg.size ≤ 2000000) := Lib.hid (HD.out r (next_mem enx).1).2
      have R16 : Hid (r.b.length = 16) := Lib.hid (HFI.out r (next_mem enx).1)
      rw [enx] at HO
      clear enx HST
      go_wp2_with fail
      refine HO.out.mono ?_
      rintro e w1 ⟨rfl, hb⟩
      have HW1 : Hid (RowT w1 w.heap.size (.slice (some ⟨g, 0, none⟩) (L + 1) cap) (pre ++ [last]) ∧ Below w.heap.size w w1) := Lib.hid (by
        have h1 := HW.out.1.below hb
        rw [HL.out] at h1
        exact ⟨h1, chain HW.out.2 hb⟩)
      have HZ := Lib.hid (rec_zeroed w1)
      unfold stepV
      have HGL : Hid (g < w1.heap.size) := Lib.hid (Nat.lt_of_lt_of_le hg hb.size)
      clear hb HO HW hlc hg
      by_cases hn0 : n = 0
      · have HE2 := Lib.hid (HE.out hn0)
        have hd : decide (most < (L : Int) + 1) = true := decide_eq_true (by omega)
        clear HE HS
        go_wp2_with (refine store_rec HZ _ _ R16 rfl rfl rfl rfl (fun W3 HW3 HE3 => ?_))
        have hb3 := below_newR HW3
        have hr3 := HW1.out.1.below hb3
        have hbw := chain HW1.out.2 hb3
        go_ret3
        rw [← HE2.out]
        exact ⟨_, rfl, hr3, hbw⟩
      · obtain ⟨m, hm1⟩ : ∃ m, n = m + 1 := ⟨n - 1, by omega⟩
        have HS2 := Lib.hid (HS.out m hm1)
        have hd : decide (most < (L : Int) + 1) = false := decide_eq_false (by omega)
        obtain ⟨T1, hT1⟩ : ∃ T1, min T r.ttl = T1 := ⟨_, rfl⟩
        rw [hT1] at HS2
        have HT1 := Lib.hid hT1
        clear HE HS hT1
        go_upto_region 7 with (refine store_rec HZ _ _ R16 rfl rfl rfl rfl (fun W3 HW3 HE3 => ?_))
        have hb3 := (below_newR HW3).drew
        have HR3 : Hid (RowT W3.drew w.heap.size (.slice (some ⟨g, 0, none⟩) (L + 1) cap) (pre ++ [last])) := Lib.hid (HW1.out.1.below hb3)
        have HB3 : Hid (Below w.heap.size w W3.drew) := Lib.hid (chain HW1.out.2 hb3)
        have HX3 := Lib.hid (HE3.out.below (Below.refl _ _).drew)
        obtain ⟨G, hG⟩ : ∃ G, w1.heap.size = G := ⟨_, rfl⟩
        have HG2 : Hid (g < G ∧ w.heap.size ≤ G) := Lib.hid ⟨by rw [← hG]; exact HGL.out, by rw [← hG]; exact HW1.out.2.size⟩
        rw [hG] at HX3
        try rw [hG]
        clear hb3 HW3 HE3 HZ hG HGL HW1
        obtain ⟨S, hS⟩ : ∃ S : World → Prop, (fun U => U.cell? ⟨G, 21, none⟩ = some (.string r.tg) ∧ U.cell? ⟨G, 3, none⟩ = some (.int .i64 r.ttl)) = S := ⟨_, rfl⟩
        have C1 : Hid (∀ w', S w' → w'.cell? ⟨G, 21, none⟩ = some (.string r.tg)) := Lib.hid (fun w' h => by rw [← hS] at h; exact h.1)
        have C2 : Hid (∀ w', S w' → w'.cell? ⟨G, 3, none⟩ = some (.int .i64 r.ttl)) := Lib.hid (fun w' h => by rw [← hS] at h; exact h.2)
        have HSI : Hid (∀ U, RecAt U G r → S U) := Lib.hid (fun U h => by rw [← hS]; exact ⟨by have := h.parts.tg; simpa using this, by have := h.parts.ttl; simpa using this⟩)
        clear hS
        refine wp_region_noPanic ?_
        refine wp_region_held_drew (S := S) (by kernel_rfl) (HSI.out _ HX3.out) (fun hHeld => ?_)
        generalize W3.drew = V at *
        refine wpAnyH_take (i := 0) (v := ?_) rfl (by kernel_rfl) (by kernel_rfl) (by kernel_rfl) (fun _ _ _ h => h) (Or.inl ⟨by rfl, ?_⟩) (by assumption) ?_
        rotate_left
        · (intro w hSw; go_simp; try (with_reducible rfl))
        try simp only [Act.put, List.getElem_toArray, List.getElem_cons_zero, List.setIfInBounds_toArray, List.set_cons_zero, List.set_cons_succ]
        refine wpAnyH_take (i := 1) (v := ?_) rfl (by kernel_rfl) (by kernel_rfl) (by kernel_rfl) (fun _ _ _ h => h) (Or.inl ⟨by rfl, ?_⟩) (by assumption) ?_
        rotate_left
        · (intro w hSw; go_simp; try (with_reducible rfl))
        try simp only [Act.put, List.getElem_toArray, List.getElem_cons_zero, List.getElem_cons_succ, List.setIfInBounds_toArray, List.set_cons_zero, List.set_cons_succ]
        refine wpAnyH_take (i := 2) (v := ?_) rfl (by kernel_rfl) (by kernel_rfl) (by kernel_rfl) (fun _ _ _ h => h) (Or.inl ⟨by rfl, ?_⟩) (by assumption) ?_
        rotate_left
        · (intro w hSw; have hc0 := C1.out w hSw; go_simp; try (with_reducible rfl))
        try simp only [Act.put, List.getElem_toArray, List.getElem_cons_zero, List.getElem_cons_succ, List.setIfInBounds_toArray, List.set_cons_zero, List.set_cons_succ]
        refine wpAnyH_take (i := 5) (v := ?_) rfl (by kernel_rfl) (by kernel_rfl) (by kernel_rfl) (fun _ _ _ h => h) (Or.inl ⟨by rfl, ?_⟩) (by assumption) ?_
        rotate_left
        · (intro w hSw; go_simp; try (with_reducible rfl))
        try simp only [Act.put, List.getElem_toArray, List.getElem_cons_zero, List.getElem_cons_succ, List.setIfInBounds_toArray, List.set_cons_zero, List.set_cons_succ]
        refine wpAnyH_take (i := 6) (v := ?_) rfl (by kernel_rfl) (by kernel_rfl) (by kernel_rfl) (fun _ _ _ h => h) (Or.inl ⟨by rfl, ?_⟩) (by assumption) ?_
        rotate_left
        · (intro w hSw; go_simp; try (with_reducible rfl))
        try simp only [Act.put, List.getElem_toArray, List.getElem_cons_zero, List.getElem_cons_succ, List.setIfInBounds_toArray, List.set_cons_zero, List.set_cons_succ]
        refine wpAnyH_take (i := 7) (v := ?_) rfl (by kernel_rfl) (by kernel_rfl) (by kernel_rfl) (fun _ _ _ h => h) (Or.inl ⟨by rfl, ?_⟩) (by assumption) ?_
        rotate_left
        · (intro w hSw; have hc0 := C2.out w hSw; go_simp; try (with_reducible rfl))
        try simp only [Act.put, List.getElem_toArray, List.getElem_cons_zero, List.getElem_cons_succ, List.setIfInBounds_toArray, List.set_cons_zero, List.set_cons_succ]
        refine wpAnyH_take (i := 8) rfl (by kernel_rfl) (by kernel_rfl) (by kernel_rfl) (fun _ _ _ h => h) (yields_min (by rfl) _ _ rfl rfl rfl) (by assumption) ?_
        try simp only [Act.put, List.getElem_toArray, List.getElem_cons_zero, List.getElem_cons_succ, List.setIfInBounds_toArray, List.set_cons_zero, List.set_cons_succ]
        rw [HT1.out]
        refine wpAnyH_ready (rs := [3]) (by kernel_rfl) (by simp) ?_
        refine ready_one rfl rfl (fun K hK => ?_)
        go_wp2_with fail
        have hb5 : Below V.heap.size V (V.alloc (.cells #[.string r.tg] 9)) := (Below.refl _ _).alloc (Nat.le_refl _) _
        have HM5 : Hid ((V.alloc (.cells #[.string r.tg] 9)).cell? ⟨V.heap.size, 0, none⟩ = some (.string r.tg)) := Lib.hid (by rw [World.cell?_alloc_new]; rfl)
        have HR5 := Lib.hid (HR3.out.below hb5)
        have HB5 := Lib.hid (chain HB3.out hb5)
        have HX5 := Lib.hid (HX3.out.below hb5)
        refine hK.out _ _ (HSI.out _ HX5.out) (fun hHeld5 => ?_)
        clear hK K
        try simp only [Act.put, List.getElem_toArray, List.getElem_cons_zero, List.getElem_cons_succ, List.setIfInBounds_toArray, List.set_cons_zero, List.set_cons_succ]
        generalize V.alloc (.cells #[.string r.tg] 9) = V5 at *
        have hll : (pre ++ [last]).length = L + 1 := by rw [List.length_append, HL.out]; rfl
        have HN5 : Hid ((pre ++ [last]).length ≤ 2000000 ∧ w.heap.size ≤ V5.heap.size) := Lib.hid ⟨by rw [hll]; omega, HB5.out.size⟩
        refine wpAnyH_ready (rs := [4]) (by kernel_rfl) (by simp) ?_
        refine ready_one rfl rfl (fun K hK => ?_)
        refine wp_append_str HR5 HM5 HN5 _ _ rfl rfl rfl (fun v' V6 h1 h2 h3 => ?_)
        have HB6 : Hid (Below w.heap.size w V6) := Lib.hid (HB5.out.grown h2.out HB5.out.size (fun k hk => (HR5.out.lt k hk).1))
        have HX6 : Hid (RecAt V6 G r) := Lib.hid (HX5.out.same h3.out.size (h3.out.keep G HX5.out.lt (by have := HG2.out.1; simp [Value.ownBlock]; omega)))
        have HR6 : Hid (RowT V6 w.heap.size v' ((pre ++ [last]) ++ [r.tg])) := h1
        refine hK.out _ _ (HSI.out _ HX6.out) (fun hHeld6 => ?_)
        clear hK K
        try simp only [Act.put, List.getElem_toArray, List.getElem_cons_zero, List.getElem_cons_succ, List.setIfInBounds_toArray, List.set_cons_zero, List.set_cons_succ]
        refine wpAnyH_take (i := 9) (v := ?_) rfl (by kernel_rfl) (by kernel_rfl) (by kernel_rfl) (fun _ _ _ h => h) (Or.inl ⟨by rfl, ?_⟩) (by assumption) ?_
        rotate_left
        · (intro w hSw; go_simp; try (with_reducible rfl))
        try simp only [Act.put, List.getElem_toArray, List.getElem_cons_zero, List.getElem_cons_succ, List.setIfInBounds_toArray, List.set_cons_zero, List.set_cons_succ]
        refine wpAnyH_take (i := 10) (v := ?_) rfl (by kernel_rfl) (by kernel_rfl) (by kernel_rfl) (fun _ _ _ h => h) (Or.inl ⟨by rfl, ?_⟩) (by assumption) ?_
        rotate_left
        · (intro w hSw; go_simp; try (with_reducible rfl))
        try simp only [Act.put, List.getElem_toArray, List.getElem_cons_zero, List.getElem_cons_succ, List.setIfInBounds_toArray, List.set_cons_zero, List.set_cons_succ]
        refine wpAnyH_done (by kernel_rfl) ?_ _
        refine NoPanic.normal ?_
        obtain ⟨g4, c4, rfl, _, _⟩ := HR6.out.last
        rw [hll] at HR6 ⊢
        clear h1 h2 h3 hHeld hHeld5 hHeld6 HX5 HX6 HR5 HB5 HM5 HN5 C1 C2 HSI HX3 HR3 HB3
        go_wp2_with fail
        go_roundw
        case rel => exact ⟨m, pre ++ [last], r.tg, T1, rfl, by omega, Lib.hid ⟨by rw [hll]; omega, HT.out, HS2.out⟩, Lib.hid ⟨HR6.out, HB6.out⟩⟩
        case measure => simp; omega
end Go.Proofs.Ytedmkdjijhflnaa
/- The reference's layer 11: Answers. -/
namespace Go.Proofs.Ytedmkdjijhflnaa
open Go.RowKit
set_option linter.unusedVariables false
set_option maxRecDepth 20000
set_option linter.unusedSimpArgs false

/-- A question boxed. -/
theorem qu_boxed (w : World) (t : TypeId) (nm : ByteArray) (ty cl : Int) : CellsAt (w.alloc (.cells #[.string nm, .int .i64 ty, .int .i64 cl] t)) w.heap.size [.string nm, .int .i64 ty, .int .i64 cl] := CellsAt.new w t _
theorem len_one {α : Type} {l : List α} (h : l.length = 1) : ∃ a, l = [a] := by
  match l, h with
  | [a], _ => exact ⟨a, rfl⟩
end Go.Proofs.Ytedmkdjijhflnaa
/- The landed match: wholeAnswer, fault, Answers. -/
namespace Go.Proofs.Ytedmkdjijhflnaa
open Go.RowKit
set_option linter.unusedVariables false
set_option maxRecDepth 20000
set_option linter.unusedSimpArgs false

/-- Bits of a number by masks, and by division. -/
def bitsOk (fl : Int) : Bool := decide (maskN fl 32768 ≠ 0) && decide (maskN fl 31232 = 0)
theorem mask_and (x : Int) (m : Nat) (hm : m < 4611686018427387904) : maskN x m = (BitVec.ofInt 64 x).toNat &&& m := by
  have h1 : (BitVec.ofInt 64 (m : Int)).toNat = m := by
    rw [BitVec.ofInt_natCast, BitVec.toNat_ofNat]
    exact Nat.mod_eq_of_lt (by omega)
  have h2 : bits .and .i64 x (m : Int) = IntKind.i64.wrap (((BitVec.ofInt 64 x &&& BitVec.ofInt 64 (m : Int)).toNat : Nat) : Int) := rfl
  have h3 : (BitVec.ofInt 64 x &&& BitVec.ofInt 64 (m : Int)).toNat = (BitVec.ofInt 64 x).toNat &&& m := by rw [BitVec.toNat_and, h1]
  have h4 : (BitVec.ofInt 64 x).toNat &&& m ≤ m := Nat.and_le_right
  unfold maskN
  rw [h2, h3, wrap_small _ m h4 hm]
  simp
theorem bit_one (y i : Nat) : y / 2 ^ i % 2 = if y.testBit i then 1 else 0 := by
  rw [Nat.testBit_eq_decide_div_mod_eq]
  have : y / 2 ^ i % 2 < 2 := Nat.mod_lt _ (by decide)
  by_cases h : y / 2 ^ i % 2 = 1
  · simp [h]
  · simp [h]; omega
theorem mask_zero (y m : Nat) : y &&& m = 0 ↔ ∀ i, y.testBit i = true → m.testBit i = false := by
  constructor
  · intro h i hi
    have := congrArg (fun z => z.testBit i) h
    simp [hi] at this
    simpa using this
  · intro h
    apply Nat.eq_of_testBit_eq
    intro i
    rw [Nat.testBit_and, Nat.zero_testBit]
    cases hy : y.testBit i with
    | false => rfl
    | true => rw [h i hy]; rfl
theorem mask_31232 (y : Nat) : y &&& 31232 = 0 ↔ y.testBit 9 = false ∧ y.testBit 11 = false ∧ y.testBit 12 = false ∧ y.testBit 13 = false ∧ y.testBit 14 = false := by
  rw [mask_zero]
  constructor
  · intro h
    have hh : ∀ i, (31232 : Nat).testBit i = true → y.testBit i = false := fun i hi => by
      cases hy : y.testBit i with
      | false => rfl
      | true => rw [h i hy] at hi; cases hi
    exact ⟨hh 9 (by decide), hh 11 (by decide), hh 12 (by decide), hh 13 (by decide), hh 14 (by decide)⟩
  · rintro ⟨h1, h2, h3, h4, h5⟩ i hi
    by_cases hl : i < 15
    · have : i = 0 ∨ i = 1 ∨ i = 2 ∨ i = 3 ∨ i = 4 ∨ i = 5 ∨ i = 6 ∨ i = 7 ∨ i = 8 ∨ i = 9 ∨ i = 10 ∨ i = 11 ∨ i = 12 ∨ i = 13 ∨ i = 14 := by omega
      rcases this with rfl | rfl | rfl | rfl | rfl | rfl | rfl | rfl | rfl | rfl | rfl | rfl | rfl | rfl | rfl
      all_goals first
        | (rw [h1] at hi; cases hi)
        | (rw [h2] at hi; cases hi)
        | (rw [h3] at hi; cases hi)
        | (rw [h4] at hi; cases hi)
        | (rw [h5] at hi; cases hi)
        | decide
    · exact Nat.testBit_lt_two_pow (Nat.lt_of_lt_of_le (by decide : (31232 : Nat) < 2 ^ 15) (Nat.pow_le_pow_right (by decide) (by omega)))
theorem mask_32768 (y : Nat) : (y &&& 32768 ≠ 0) ↔ y.testBit 15 = true := by
  constructor
  · intro h
    cases hy : y.testBit 15 with
    | true => rfl
    | false =>
      refine absurd ((mask_zero y 32768).2 fun i hi => ?_) h
      have : i ≠ 15 := fun e => by rw [e, hy] at hi; cases hi
      rw [show (32768 : Nat) = 2 ^ 15 from rfl, Nat.testBit_two_pow]
      simp; omega
  · intro h e
    have := (mask_zero y 32768).1 e 15 h
    exact absurd this (by decide)
theorem bit_mod (y i : Nat) (hi : i < 16) : (y &&& 65535) / 2 ^ i % 2 = if y.testBit i then 1 else 0 := by
  rw [bit_one, Nat.testBit_and]
  have : (65535 : Nat).testBit i = true := by
    rw [show (65535 : Nat) = 2 ^ 16 - 1 from rfl, Nat.testBit_two_pow_sub_one]
    exact decide_eq_true hi
  rw [this, Bool.and_true]
theorem flags_same (fl : Int) : bitsOk fl = flagOk fl := by
  unfold bitsOk flagOk bitS
  rw [mask_and _ _ (by decide), mask_and _ _ (by decide), mask_and _ _ (by decide)]
  generalize (BitVec.ofInt 64 fl).toNat = y
  have h15 := bit_mod y 15 (by decide)
  have h9 := bit_mod y 9 (by decide)
  have h11 := bit_mod y 11 (by decide)
  have h12 := bit_mod y 12 (by decide)
  have h13 := bit_mod y 13 (by decide)
  have h14 := bit_mod y 14 (by decide)
  have e1 : decide (y &&& 32768 ≠ 0) = y.testBit 15 := by
    cases hy : y.testBit 15 with
    | true => exact decide_eq_true ((mask_32768 y).2 hy)
    | false => exact decide_eq_false (fun h => by rw [(mask_32768 y).1 h] at hy; cases hy)
  have e2 : decide (y &&& 31232 = 0) = (!y.testBit 9 && (!y.testBit 11 && (!y.testBit 12 && (!y.testBit 13 && !y.testBit 14)))) := by
    rw [Bool.eq_iff_iff, decide_eq_true_iff, mask_31232]
    simp
  rw [e1, e2]
  generalize y &&& 65535 = z at *
  cases b15 : y.testBit 15 <;> cases b9 : y.testBit 9 <;> cases b11 : y.testBit 11 <;> cases b12 : y.testBit 12 <;> cases b13 : y.testBit 13 <;> cases b14 : y.testBit 14 <;> simp only [b15, b9, b11, b12, b13, b14, if_true, Bool.false_eq_true, if_false] at h15 h9 h11 h12 h13 h14 <;> simp <;> omega
theorem mask_15 (fl : Int) : bitS fl 0 4 = maskN fl 15 := by
  unfold bitS
  rw [mask_and _ _ (by decide), mask_and _ _ (by decide)]
  generalize (BitVec.ofInt 64 fl).toNat = y
  rw [show (65535 : Nat) = 2 ^ 16 - 1 from rfl, show (15 : Nat) = 2 ^ 4 - 1 from rfl, Nat.and_two_pow_sub_one_eq_mod, Nat.and_two_pow_sub_one_eq_mod]
  omega
/-- The error that Flags tell. -/
def faultP (fl : Int) : Int := if bitS fl 0 4 = 3 then 8 else if bitS fl 0 4 ≠ 0 then 7 else 0
set_option maxRecDepth 100000 in
theorem fault_any (fl : Int) (w : World) : Calls Try.prog 20 #[.int .i64 fl] w fun e w' => e = .returned (.int .i64 (faultP fl)) ∧ w' = w := by
  obtain ⟨hm1, hk1⟩ := mask_is fl 15 (by decide)
  have hm1 : bits .and .i64 fl 15 = ((maskN fl 15 : Nat) : Int) := hm1
  unfold faultP
  rw [mask_15]
  generalize maskN fl 15 = m at *
  by_cases h0 : m = 0
  · have e3 : ((m : Int) == 0) = true := by simp [h0]
    have e4 : decide ((m : Int) = 0) = true := by simp [h0]
    have e5 : (m == 0) = true := by simp [h0]
    rw [if_neg (by omega), if_neg (by simpa using h0)]
    clear h0
    go_enter Try.func20, Try.ntmps20
    go_wp2_with fail
    go_ret
    exact ⟨rfl, rfl⟩
  · have e3 : ((m : Int) == 0) = false := by simp; omega
    have e4 : decide ((m : Int) = 0) = false := by simp; omega
    have e5 : (m == 0) = false := by simp; omega
    by_cases h3 : m = 3
    · have f3 : ((m : Int) == 3) = true := by simp [h3]
      have f4 : decide ((m : Int) = 3) = true := by simp [h3]
      have f5 : (m == 3) = true := by simp [h3]
      rw [if_pos h3]
      clear h3 h0
      go_enter Try.func20, Try.ntmps20
      go_wp2_with fail
      go_ret
      exact ⟨rfl, rfl⟩
    · have f3 : ((m : Int) == 3) = false := by simp; omega
      have f4 : decide ((m : Int) = 3) = false := by simp; omega
      have f5 : (m == 3) = false := by simp; omega
      rw [if_neg h3, if_pos h0]
      clear h3 h0
      go_enter Try.func20, Try.ntmps20
      go_wp2_with fail
      go_ret
      exact ⟨rfl, rfl⟩
end Go.Proofs.Ytedmkdjijhflnaa
/- The landed match: Tell. -/
namespace Go.Proofs.Ytedmkdjijhflnaa
open Go.RowKit
set_option linter.unusedVariables false
set_option maxRecDepth 20000
set_option linter.unusedSimpArgs false

theorem tell_keeps (D : List Rec) : ∀ (x : Int × List Ad), x.2 ≠ [] → (tellAll x D).2 ≠ [] := by
  induction D with
  | nil => intro x h; exact h
  | cons r D ih =>
    intro x h
    rw [tell_cons]
    refine ih _ ?_
    unfold tellStep
    by_cases hin : (r.f, r.b) ∈ x.2
    · simp [hin, h]
    · simp [hin]
theorem tell_empty (D : List Rec) (t : Int) : (tellAll (t, []) D).2 = [] → (tellAll (t, []) D).1 = t := by
  cases D with
  | nil => intro _; rfl
  | cons r D =>
    intro h
    rw [tell_cons] at h
    exact absurd h (tell_keeps D _ (by simp [tellStep]))
set_option maxRecDepth 100000 in
set_option maxHeartbeats 4000000 in
theorem tell_any (q : Qry) (m : Msg) (aq a1 a2 a3 : Option Addr) (cq c1 c2 c3 : Nat) (w : World) (hM : RecsAt w a1 c1 m.an) (hD : All2 m.an) (hn : q.nm.size ≤ 2000000) (hl : m.an.length ≤ 900) :
    Calls Try.prog 7 #[qryV q, msgV m aq a1 a2 a3 cq c1 c2 c3] w (TellRet w (tellP m.fl q.nm q.ty m.an)) := by
  have HM := Lib.hid hM
  have HD := Lib.hid hD
  have HQN := Lib.hid hn
  have HLN := Lib.hid hl
  have HFA := fun W => Lib.hid (fault_any m.fl W)
  have HFP : Hid (faultP m.fl = if bitS m.fl 0 4 = 3 then 8 else if bitS m.fl 0 4 ≠ 0 then 7 else 0) := Lib.hid rfl
  have HTP : Hid (tellP m.fl q.nm q.ty m.an = if bitS m.fl 0 4 = 3 then errT 8 else if bitS m.fl 0 4 ≠ 0 then errT 7 else
    if (chainP m.an 8 q.nm 604800).2.2 = true then endT (chainP m.an 8 q.nm 604800).1 (tellAll ((chainP m.an 8 q.nm 604800).2.1, []) (m.an.filter (isRec (lastB (chainP m.an 8 q.nm 604800).1) q.ty))) else errT 3) := Lib.hid rfl
  obtain ⟨X, hX⟩ : ∃ X, tellP m.fl q.nm q.ty m.an = X := ⟨_, rfl⟩
  rw [hX] at HTP ⊢
  obtain ⟨b4, hb4⟩ : ∃ b, bitS m.fl 0 4 = b := ⟨_, rfl⟩
  rw [hb4] at HTP HFP
  simp only [HFP.out] at HFA
  have HCH := fun W (h : Below w.heap.size w W) => Lib.hid (chain_any a1 c1 m.an q.nm 8 W (hM.below h) hD hn (by decide) hl)
  simp only [show ((8 : Int)).toNat = 8 from rfl] at HCH
  obtain ⟨CH, hCH⟩ : ∃ CH, chainP m.an 8 q.nm 604800 = CH := ⟨_, rfl⟩
  have HTL : Hid (CH.2.1 ≤ 604800) := Lib.hid (by rw [← hCH]; exact chain_ttl _ _ _ _)
  have HPOS : Hid (∃ l, CH.1 = q.nm :: l ∧ l.length ≤ 8) := Lib.hid (by rw [← hCH]; exact chain_pos _ _ _ _)
  have HSM : Hid (∀ p ∈ CH.1, p.size ≤ 2000000) := Lib.hid (by rw [← hCH]; exact chain_small hD 8 hn _)
  rw [hCH] at HTP
  simp only [hCH] at HCH
  clear hX hb4 hM hD hn hl hCH
  obtain ⟨qid, qnm, qty, qsv⟩ := q
  unfold qryV msgV
  simp only at HTP HCH HQN HPOS ⊢
  obtain ⟨W0, hW0⟩ : ∃ W0, ((w.alloc (.cells #[.int .i64 qid, .string qnm, .int .i64 qty, .int .i64 qsv] 23)).alloc (.cells #[.int .i64 m.id, .int .i64 m.fl, .slice aq m.qs.length cq, .slice a1 m.an.length c1, .slice a2 m.au.length c2, .slice a3 m.mo.length c3] 33)).alloc (.cells #[.int .i64 0, .slice none 0 0, .int .i64 0, .string ⟨#[]⟩, .int .i64 0] 29) = W0 := ⟨_, rfl⟩
  have HB0 : Hid (Below w.heap.size w W0) := Lib.hid (by rw [← hW0]; exact (((Below.refl _ _).alloc (Nat.le_refl _) _).alloc (by simp) _).alloc (by simp; omega) _)
  have HS0 : Hid (W0.heap.size = w.heap.size + 3) := Lib.hid (by rw [← hW0]; simp)
  have HQ : Hid (CellsAt W0 w.heap.size [.int .i64 qid, .string qnm, .int .i64 qty, .int .i64 qsv]) := Lib.hid (by
    rw [← hW0]; exact (CellsAt.new w 23 [.int .i64 qid, .string qnm, .int .i64 qty, .int .i64 qsv]).below (((Below.refl _ _).alloc (Nat.le_refl _) _).alloc (by simp) _))
  have HX : Hid (CellsAt W0 (w.heap.size + 1) [.int .i64 m.id, .int .i64 m.fl, .slice aq m.qs.length cq, .slice a1 m.an.length c1, .slice a2 m.au.length c2, .slice a3 m.mo.length c3]) := Lib.hid (by
    have := (CellsAt.new (w.alloc (.cells #[.int .i64 qid, .string qnm, .int .i64 qty, .int .i64 qsv] 23)) 33 [.int .i64 m.id, .int .i64 m.fl, .slice aq m.qs.length cq, .slice a1 m.an.length c1, .slice a2 m.au.length c2, .slice a3 m.mo.length c3]).below ((Below.refl _ _).alloc (Nat.le_refl _) (.cells #[.int .i64 0, .slice none 0 0, .int .i64 0, .string ⟨#[]⟩, .int .i64 0] 29))
    rw [← hW0]; simpa using this)
  have HZ : Hid (CellsAt W0 (w.heap.size + 2) zT) := Lib.hid (by
    have := CellsAt.new ((w.alloc (.cells #[.int .i64 qid, .string qnm, .int .i64 qty, .int .i64 qsv] 23)).alloc (.cells #[.int .i64 m.id, .int .i64 m.fl, .slice aq m.qs.length cq, .slice a1 m.an.length c1, .slice a2 m.au.length c2, .slice a3 m.mo.length c3] 33)) 29 zT
    rw [← hW0]; simpa using this)
  have HMM := Lib.hid HM.out.2.2.1
  obtain ⟨N, hN⟩ : ∃ N, m.an.length = N := ⟨_, rfl⟩
  have HN := Lib.hid hN
  rw [hN] at HX hW0 HLN ⊢
  simp only [hN] at HCH
  generalize m.qs.length = n1 at *
  generalize m.au.length = n2 at *
  generalize m.mo.length = n3 at *
  generalize m.id = mid at *
  generalize m.fl = mfl at *
  generalize m.an = D at *
  clear hN
  have FIN : Hid (∀ (tm : Array Value) (V U : World) (v : Value) (y : Tld), y = X → tm.getD 4 undef = .pointer (some ⟨w.heap.size + 2, 0, none⟩) → Below w.heap.size w V → RowA V W0.heap.size v y.ad → U = V.setCells (w.heap.size + 2) 0 (tldL y v) → CellsAt U (w.heap.size + 2) (tldL y v) → bodyPost Try.prog Try.f7 (TellRet w X) .ret { tmps := tm, defers := [] } U) := Lib.hid (fun tm V U v y hy ht hb hr hU hc => by
    have hs := HS0.out
    subst hy
    refine bodyPost_ret (v := .agg (tldL y v).toArray) (results_of Try.results7 ht hc Try.underlying29 rfl (by kernel_rfl)) rfl ⟨v, rfl, ?_, ?_⟩
    · refine (hr.cells (G := w.heap.size + 2) (by omega) (fun k hk => ?_)).mono (by omega)
      rw [hU]; exact heap_setCells_other _ _ _ _ _ hk
    · rw [hU]; exact below_cells (by omega) _ _ _ hb)
  go_enter Try.func7, Try.ntmps7
  go_upto_region 1 with fail
  try rw [hW0]
  clear hW0
  obtain ⟨G, hG⟩ : ∃ G, w.heap.size = G := ⟨_, rfl⟩
  have HG := Lib.hid hG
  rw [hG] at HX HQ HZ FIN HS0 HB0
  rw [hG] at HCH
  try rw [hG]
  clear hG
  have x1 := HX.out.cell 1 _ rfl
  have hsT : (Try.prog.info? 29).map (·.size) = some 5 := by kernel_rfl
  go_wp2_with fail
  refine (HFA _).out.mono ?_
  rintro e wq ⟨rfl, hwq⟩
  obtain rfl : W0 = wq := hwq.symm
  clear HFA hwq HFP
  by_cases f3 : b4 = 3
  · have HE : Hid (errT 8 = X) := Lib.hid (by rw [HTP.out, if_pos f3])
    rw [if_pos f3]
    clear HTP f3
    go_wp2_with (refine store_of HZ rfl hsT _ _ rfl rfl rfl (vs := tldL (errT 8) (.slice none 0 0)) rfl rfl rfl (fun U HU HUC => ?_))
    exact FIN.out _ _ U (.slice none 0 0) (errT 8) HE.out rfl HB0.out (RowA.nil _ _) HU.out HUC.out
  · by_cases f0 : b4 = 0
    · have HE : Hid (X = if CH.2.2 = true then endT CH.1 (tellAll (CH.2.1, []) (D.filter (isRec (lastB CH.1) qty))) else errT 3) := Lib.hid (by rw [HTP.out, if_neg f3, if_neg (by simpa using f0)])
      have HC1 := HCH W0 HB0.out
      rw [if_neg f3, if_neg (by simpa using f0)]
      clear HTP f3 HCH
      have q1 := HQ.out.cell 1 _ rfl
      have x3 := HX.out.cell 3 _ rfl
      go_wp2_with fail
      refine HC1.out.mono ?_
      rintro e w1 ⟨v1, rfl, hr1, hb1⟩
      obtain ⟨pre, last, hpl⟩ : ∃ pre last, CH.1 = pre ++ [last] := by
        obtain ⟨l, e, _⟩ := HPOS.out
        exact ⟨CH.1.dropLast, CH.1.getLast (by rw [e]; simp), (List.dropLast_concat_getLast (by rw [e]; simp)).symm⟩
      have hL8 : pre.length ≤ 8 := by
        obtain ⟨l, e, h8⟩ := HPOS.out
        have := congrArg List.length (e.symm.trans hpl)
        simp at this; omega
      have hls : last.size ≤ 2000000 := HSM.out last (by rw [hpl]; simp)
      rw [hpl] at hr1
      obtain ⟨g, c, rfl, hg, hlc⟩ := hr1.last
      have HB1 := Lib.hid hb1
      have HE2 : Hid (X = if CH.2.2 = true then endT (pre ++ [last]) (tellAll (CH.2.1, []) (D.filter (isRec last qty))) else errT 3) := Lib.hid (by rw [HE.out, hpl, lastB_app])
      obtain ⟨cn, T0, ends⟩ := CH
      simp only at HE2 HTL ⊢
      obtain ⟨L, hL⟩ : ∃ L, pre.length = L := ⟨_, rfl⟩
      have HL := Lib.hid hL
      rw [hL] at hlc hL8 ⊢
      clear hL hpl hr1 hb1 HE HC1 HPOS HSM
      have hi1 : (0 : Int) ≤ (L : Int) := by omega
      have hi2 : (L : Int) < (L : Int) + 1 := by omega
      have HZ1 := Lib.hid (HZ.out.below HB1.out)
      have HQ1 := Lib.hid (HQ.out.below HB1.out)
      have HX1 := Lib.hid (HX.out.below HB1.out)
      clear x1 q1 x3
      cases ends with
      | false =>
        have HE3 : Hid (errT 3 = X) := Lib.hid (by rw [HE2.out]; rfl)
        clear HE2
        go_wp2_with (refine store_of HZ1 rfl hsT _ _ rfl rfl rfl (vs := tldL (errT 3) (.slice none 0 0)) rfl rfl rfl (fun U HU HUC => ?_))
        exact FIN.out _ w1 U (.slice none 0 0) (errT 3) HE3.out rfl (HB0.out.trans (HB1.out.mono (by have := HS0.out; omega))) (RowA.nil _ _) HU.out HUC.out
      | true =>
        have HE3 : Hid (X = endT (pre ++ [last]) (min T0 (tellAll (604800, []) (D.filter (isRec last qty))).1, (tellAll (604800, []) (D.filter (isRec last qty))).2)) := Lib.hid (by
          rw [HE2.out, if_pos rfl, ← tell_min, show min T0 604800 = T0 by have := HTL.out; omega])
        have HTE := Lib.hid (tell_empty (D.filter (isRec last qty)) 604800)
        have HAD := Lib.hid (addresses_any last qty a1 c1 D w1 (((HM.out.below (by rw [HG.out]; exact HB0.out)).below HB1.out)) HD.out hls (by rw [HN.out]; exact HLN.out))
        simp only [HN.out] at HAD
        clear HE2
        have q2 := HQ1.out.cell 2 _ rfl
        have x3 := HX1.out.cell 3 _ rfl
        go_wp2_with fail
        refine HAD.out.mono ?_
        rintro e w2 ⟨v2, rfl, hr2, hb2⟩
        generalize tellAll (604800, []) (D.filter (isRec last qty)) = y at *
        obtain ⟨T, acc⟩ := y
        simp only at hr2 HE3 HTE ⊢
        have HR2 := Lib.hid (hr2.mono HB1.out.size)
        have HB2 := Lib.hid (chain HB1.out hb2)
        have HZ2 := Lib.hid (HZ.out.below HB2.out)
        obtain ⟨av, cv, rfl, hav⟩ := hr2.ads
        clear hr2 hb2 HB1 HAD q2 x3 HZ1 HQ1 HX1 hlc hg hav
        have hlen : (pre ++ [last]).length = L + 1 := by rw [List.length_append, HL.out]; rfl
        by_cases hac : acc = []
        · subst hac
          have hl0 : ([] : List Ad).length = 0 := rfl
          have HT0 : Hid (T = 604800) := Lib.hid (HTE.out rfl)
          have hmin : min T0 T = T0 := by have := HTL.out; have := HT0.out; omega
          rw [hmin] at HE3
          rw [hl0] at HR2 ⊢
          clear hmin
          by_cases hL0 : L = 0
          · have HE5 : Hid (errT 8 = X) := Lib.hid (by rw [HE3.out]; unfold endT; rw [if_pos rfl, if_pos (by rw [hlen, hL0])])
            have e4 : (L == 0) = true := by simp [hL0]
            have e5 : ((L : Int) == 0) = true := by simp [hL0]
            have e6 : decide ((L : Int) = 0) = true := by simp [hL0]
            clear HE3 hL0 hlen HTE
            go_wp2_with (refine store_of HZ2 rfl hsT _ _ rfl rfl rfl (vs := tldL (errT 8) (.slice none 0 0)) rfl rfl rfl (fun U HU HUC => ?_))
            exact FIN.out _ w2 U (.slice none 0 0) (errT 8) HE5.out rfl (HB0.out.trans (HB2.out.mono (by have := HS0.out; omega))) (RowA.nil _ _) HU.out HUC.out
          · have HE5 : Hid (⟨0, [], T0, last, L⟩ = X) := Lib.hid (by rw [HE3.out]; unfold endT; rw [if_pos rfl, if_neg (by rw [hlen]; omega), hlen, lastB_app]; rfl)
            have e4 : (L == 0) = false := by simp; omega
            have e5 : ((L : Int) == 0) = false := by simp; omega
            have e6 : decide ((L : Int) = 0) = false := by simp; omega
            clear HE3 hlen HTE
            go_wp2_with (refine store_of HZ2 rfl hsT _ _ rfl rfl rfl (vs := tldL ⟨0, [], T0, last, L⟩ (.slice none 0 0)) rfl rfl rfl (fun U HU HUC => ?_))
            exact FIN.out _ w2 U (.slice none 0 0) ⟨0, [], T0, last, L⟩ HE5.out rfl (HB0.out.trans (HB2.out.mono (by have := HS0.out; omega))) (RowA.nil _ _) HU.out HUC.out
        · obtain ⟨T1, hT1⟩ : ∃ T1, min T0 T = T1 := ⟨_, rfl⟩
          have HT1 := Lib.hid hT1
          rw [hT1] at HE3
          have HE5 : Hid (⟨0, acc, T1, ⟨#[]⟩, L⟩ = X) := Lib.hid (by rw [HE3.out]; unfold endT; rw [if_neg hac, hlen]; rfl)
          obtain ⟨M, hM⟩ : ∃ M, acc.length = M := ⟨_, rfl⟩
          have hM0 : 0 < M := by rw [← hM]; exact List.length_pos_iff.2 hac
          have hdM : decide ((0 : Int) < (M : Int)) = true := decide_eq_true (by omega)
          rw [hM] at HR2 ⊢
          clear HE3 hac hM hlen HTE hT1
          go_wp2_with (first | (refine min_step rfl _ _ rfl rfl rfl ?_; rw [HT1.out]) | refine store_of HZ2 rfl hsT _ _ rfl rfl rfl (vs := tldL ⟨0, acc, T1, ⟨#[]⟩, L⟩ (.slice av M cv)) rfl rfl rfl (fun U HU HUC => ?_))
          exact FIN.out _ w2 U (.slice av M cv) ⟨0, acc, T1, ⟨#[]⟩, L⟩ HE5.out rfl (HB0.out.trans (HB2.out.mono (by have := HS0.out; omega))) HR2.out HU.out HUC.out
    · have HE : Hid (errT 7 = X) := Lib.hid (by rw [HTP.out, if_neg f3, if_pos f0])
      rw [if_neg f3, if_pos f0]
      clear HTP f3 f0
      go_wp2_with (refine store_of HZ rfl hsT _ _ rfl rfl rfl (vs := tldL (errT 7) (.slice none 0 0)) rfl rfl rfl (fun U HU HUC => ?_))
      exact FIN.out _ _ U (.slice none 0 0) (errT 7) HE.out rfl HB0.out (RowA.nil _ _) HU.out HUC.out
end Go.Proofs.Ytedmkdjijhflnaa
/- The landed match: Forge. -/
namespace Go.Proofs.Ytedmkdjijhflnaa
open Go.RowKit
set_option linter.unusedVariables false
set_option maxRecDepth 20000
set_option linter.unusedSimpArgs false

theorem wp_build_quM {op : Oper} {a : Act} {w : World} {K : Act → World → Prop} {Q : Exit → Act → World → Prop} {q : Qu} (x : Operand) (ho : op.op = .buildSlice 31 1 #[(0, x)])
    (hx : a.eval x = quV q) (h : ∀ W, Hid (W = w.alloc (.cells (quL q).toArray 68)) → K (a.put op.dst (.slice (some ⟨w.heap.size, 0, none⟩) 1 1)) W) : op.wp Try.prog a w K Q := by
  unfold Oper.wp execOp
  simp only [ho, List.map_toArray, List.map_cons, List.map_nil, hx, Sem.run_bind, run_buildQ q w, Result.andThen_ok]
  exact h _ (Lib.hid rfl)
theorem quM_size : (Try.prog.info? 68).map (·.size) = some 3 := by kernel_rfl
theorem yields_quM {ops : Array Oper} {S : World → Prop} {op : Oper} {a : Act} {G o : Nat} {q : Qu} (hS : Hid (∀ w, S w → w.rangeAt G o (quL q))) (hw : Region.wanted op (yielded ops a.tmps) = true) (x : Operand) (ho : op.op = .load 68 x) (hx : a.eval x = .pointer (some ⟨G, o, none⟩)) : YieldsIf Try.prog ops S op (quV q) a :=
  yieldsIf_load_mid hw 68 x ho G o hx (quL q) _ (fun w h => hS.out w h) Try.underlying68 rfl (by rw [quM_size]; rfl)
/-- What Forge tells. -/
def ForgeRet (w : World) (q : Qry) (D : List Rec) (e : Ending) (w' : World) : Prop :=
  Below w.heap.size w w' ∧ ∃ aq a1 c1, e = .returned (msgV (forgeM q D) aq a1 none none 1 c1 0 0) ∧ MsgIn w' (forgeM q D) aq a1 none none 1 c1 0 0
set_option maxRecDepth 100000 in
set_option maxHeartbeats 4000000 in
theorem forge_any (q : Qry) (a : Option Addr) (c : Nat) (D : List Rec) (w : World) (hA : RecsAt w a c D) (hl : D.length ≤ 100000) (hq : (Lit.int .i64 q.ty).wf = true) (hn : q.nm.size ≤ maxLen) :
    Calls Try.prog 24 #[qryV q, .slice a D.length c] w (ForgeRet w q D) := by
  have HF : Hid (FitQ ⟨q.nm, q.ty, 1⟩) := Lib.hid ⟨hq, (by decide : (Lit.int .i64 1).wf = true), hn⟩
  have HCR := fun V (h : Below w.heap.size w V) => Lib.hid (cloneR_any a c D V (hA.below h) hl)
  have HFR := Lib.hid hA.2.2.1
  obtain ⟨id, nm, ty, sv⟩ := q
  unfold qryV
  simp only at HF ⊢
  obtain ⟨W0, hW0⟩ : ∃ W0, (w.alloc (.cells #[.int .i64 id, .string nm, .int .i64 ty, .int .i64 sv] 23)).alloc (.cells #[.int .i64 0, .int .i64 0, .slice none 0 0, .slice none 0 0, .slice none 0 0, .slice none 0 0] 33) = W0 := ⟨_, rfl⟩
  have HZ0 : Hid (CellsAt W0 (w.heap.size + 1) zM) := Lib.hid (by
    have := CellsAt.new (w.alloc (.cells #[.int .i64 id, .string nm, .int .i64 ty, .int .i64 sv] 23)) 33 zM
    rw [← hW0]; simpa using this)
  have HQ0 : Hid (CellsAt W0 w.heap.size [.int .i64 id, .string nm, .int .i64 ty, .int .i64 sv]) := Lib.hid (by
    rw [← hW0]; exact (CellsAt.new w 23 [.int .i64 id, .string nm, .int .i64 ty, .int .i64 sv]).below ((Below.refl _ _).alloc (Nat.le_refl _) _))
  have HB0 : Hid (Below w.heap.size w W0) := Lib.hid (by rw [← hW0]; exact ((Below.refl _ _).alloc (Nat.le_refl _) _).alloc (by simp) _)
  have HS0 : Hid (W0.heap.size = w.heap.size + 2) := Lib.hid (by rw [← hW0]; simp)
  have HMV : Hid (∀ aq a1 c1 v1, v1 = .slice a1 D.length c1 → Value.agg #[.int .i64 id, .int .i64 33152, .slice aq 1 1, v1, .slice none 0 0, .slice none 0 0] = msgV (forgeM ⟨id, nm, ty, sv⟩ D) aq a1 none none 1 c1 0 0) := Lib.hid (fun aq a1 c1 v1 e => by rw [e]; rfl)
  obtain ⟨N, hN⟩ : ∃ N, D.length = N := ⟨_, rfl⟩
  have HN := Lib.hid hN
  rw [hN] at HCR HMV ⊢
  clear hA hl hq hn hN
  go_enter Try.func24, Try.ntmps24
  go_upto_region 1 with fail
  try rw [hW0]
  clear hW0
  obtain ⟨G, hG⟩ : ∃ G, w.heap.size = G := ⟨_, rfl⟩
  have HG := Lib.hid hG
  rw [hG] at HZ0 HQ0 HS0
  try rw [hG]
  clear hG
  have hc1 := HQ0.out.cell 1 _ rfl
  have hc2 := HQ0.out.cell 2 _ rfl
  go_upto_region 2 with fail
  obtain ⟨W1, hW1⟩ : ∃ W1, W0.alloc (.cells #[.string nm, .int .i64 ty, .int .i64 1] 68) = W1 := ⟨_, rfl⟩
  have hb1 : Below W0.heap.size W0 W1.drew := by rw [← hW1]; exact ((Below.refl _ _).alloc (Nat.le_refl _) _).drew
  have HU : Hid (W1.drew.rangeAt W0.heap.size 0 (quL ⟨nm, ty, 1⟩)) := Lib.hid (by
    have := (CellsAt.new W0 68 (quL ⟨nm, ty, 1⟩)).range
    rw [show W0.alloc (.cells (quL ⟨nm, ty, 1⟩).toArray 68) = W1 from hW1] at this
    exact this)
  have HUL : Hid (W0.heap.size < W1.drew.heap.size) := Lib.hid (by show W0.heap.size < W1.heap.size; rw [← hW1]; simp)
  have HZ1 := Lib.hid (HZ0.out.below hb1)
  have HQ1 := Lib.hid (HQ0.out.below hb1)
  have HB1 := Lib.hid (chain HB0.out hb1)
  try rw [hW1]
  clear hW1 hb1 hc1 hc2 HZ0 HQ0 HB0
  obtain ⟨S, hS⟩ : ∃ S : World → Prop, (fun V => V.cell? ⟨G, 0, none⟩ = some (.int .i64 id) ∧ V.rangeAt W0.heap.size 0 (quL ⟨nm, ty, 1⟩)) = S := ⟨_, rfl⟩
  have C1 : Hid (∀ w', S w' → w'.cell? ⟨G, 0, none⟩ = some (.int .i64 id)) := Lib.hid (fun w' h => by rw [← hS] at h; exact h.1)
  have C2 : Hid (∀ w', S w' → w'.rangeAt W0.heap.size 0 (quL ⟨nm, ty, 1⟩)) := Lib.hid (fun w' h => by rw [← hS] at h; exact h.2)
  have HSI : Hid (∀ V, CellsAt V G [.int .i64 id, .string nm, .int .i64 ty, .int .i64 sv] → V.rangeAt W0.heap.size 0 (quL ⟨nm, ty, 1⟩) → S V) := Lib.hid (fun V h k => by rw [← hS]; exact ⟨h.cell 0 _ rfl, k⟩)
  clear hS
  refine wp_region_noPanic ?_
  refine wp_region_held_drew (S := S) (by kernel_rfl) (HSI.out _ HQ1.out HU.out) (fun hHeld => ?_)
  generalize W1.drew = V at *
  have FIN : Hid (∀ (tm : Array Value) (V5 U : World) (B2 B3 : Nat) (g : Nat) (v3 : Value), tm.getD 4 undef = .pointer (some ⟨G + 1, 0, none⟩) → RowQ V5 B2 (.slice (some ⟨g, 0, none⟩) 1 1) [⟨nm, ty, 1⟩] → RowR V5 B3 v3 D → G + 1 < B2 → G + 1 < B3 → Below w.heap.size w V5 → U = V5.setCells (G + 1) 0 [.int .i64 id, .int .i64 33152, .slice (some ⟨g, 0, none⟩) 1 1, v3, .slice none 0 0, .slice none 0 0] → CellsAt U (G + 1) [.int .i64 id, .int .i64 33152, .slice (some ⟨g, 0, none⟩) 1 1, v3, .slice none 0 0, .slice none 0 0] → bodyPost Try.prog Try.f24 (ForgeRet w ⟨id, nm, ty, sv⟩ D) .ret { tmps := tm, defers := [] } U) := Lib.hid (fun tm V5 U B2 B3 g v3 ht hq hr h2 h3 hb hU hc => by
    have hq2 : RowQ U B2 (.slice (some ⟨g, 0, none⟩) 1 1) [⟨nm, ty, 1⟩] := by rw [hU]; exact row_apart hq h2
    have hr2 : RowR U B3 v3 D := by rw [hU]; exact ⟨row_apart hr.1 h3, hr.2⟩
    obtain ⟨a1, c1, e1, m1⟩ := hr2.recs HFR.out
    obtain ⟨aq, cq, eq, mq⟩ := hq2.qus (fun x hx => by rw [List.mem_singleton.1 hx]; exact HF.out)
    have eq2 : aq = some ⟨g, 0, none⟩ ∧ cq = 1 := by injection eq with h1 h2 h3; exact ⟨h1.symm, h3.symm⟩
    obtain ⟨rfl, rfl⟩ := eq2
    rw [HN.out] at e1
    refine bodyPost_ret (v := msgV (forgeM ⟨id, nm, ty, sv⟩ D) (some ⟨g, 0, none⟩) a1 none none 1 c1 0 0) ?_ rfl ⟨?_, _, _, _, rfl, ?_⟩
    · rw [← HMV.out _ _ _ v3 e1]
      exact results_msg Try.results24 ht hc rfl
    · rw [hU]; exact below_cells (by have := HG.out; omega) _ _ _ hb
    · exact ⟨mq, m1, RecsAt.none0 _, RecsAt.none0 _⟩)
  refine wpAnyH_take (i := 0) (v := ?_) rfl (by kernel_rfl) (by kernel_rfl) (by kernel_rfl) (fun _ _ _ h => h) (Or.inl ⟨by rfl, ?_⟩) (by assumption) ?_
  rotate_left
  · (intro w hSw; go_simp; try (with_reducible rfl))
  try simp only [Act.put, List.getElem_toArray, List.getElem_cons_zero, List.setIfInBounds_toArray, List.set_cons_zero, List.set_cons_succ]
  refine wpAnyH_take (i := 1) (v := ?_) rfl (by kernel_rfl) (by kernel_rfl) (by kernel_rfl) (fun _ _ _ h => h) (Or.inl ⟨by rfl, ?_⟩) (by assumption) ?_
  rotate_left
  · (intro w hSw; have hc0 := C1.out w hSw; go_simp; try (with_reducible rfl))
  try simp only [Act.put, List.getElem_toArray, List.getElem_cons_zero, List.getElem_cons_succ, List.setIfInBounds_toArray, List.set_cons_zero, List.set_cons_succ]
  refine wpAnyH_take (i := 2) rfl (by kernel_rfl) (by kernel_rfl) (by kernel_rfl) (fun _ _ _ h => h) (yields_quM C2 (by rfl) _ rfl rfl) (by assumption) ?_
  try simp only [Act.put, List.getElem_toArray, List.getElem_cons_zero, List.getElem_cons_succ, List.setIfInBounds_toArray, List.set_cons_zero, List.set_cons_succ]
  refine wpAnyH_take (i := 4) (v := ?_) rfl (by kernel_rfl) (by kernel_rfl) (by kernel_rfl) (fun _ _ _ h => h) (Or.inl ⟨by rfl, ?_⟩) (by assumption) ?_
  rotate_left
  · (intro w hSw; go_simp; try (with_reducible rfl))
  try simp only [Act.put, List.getElem_toArray, List.getElem_cons_zero, List.getElem_cons_succ, List.setIfInBounds_toArray, List.set_cons_zero, List.set_cons_succ]
  refine wpAnyH_ready (rs := [3, 5]) (by kernel_rfl) (by simp) ?_
  refine AllReadyH.cons rfl (fun K hK => ?_) (ready_one rfl rfl (fun K hK => ?_))
  · rw [if_pos (by rfl)]
    refine wp_build_quM _ rfl rfl (fun W5 HW5 => ?_)
    have hb5 : Below V.heap.size V W5 := by rw [HW5.out]; exact (Below.refl _ _).alloc (Nat.le_refl _) _
    have HR5 : Hid (RowQ W5 V.heap.size (.slice (some ⟨V.heap.size, 0, none⟩) 1 1) [⟨nm, ty, 1⟩]) := Lib.hid (by rw [HW5.out]; exact ownQ_new V ⟨nm, ty, 1⟩)
    have HZ5 := Lib.hid (HZ1.out.below hb5)
    have HQ5 := Lib.hid (HQ1.out.below hb5)
    have HB5 := Lib.hid (chain HB1.out hb5)
    have HU5 : Hid (W5.rangeAt W0.heap.size 0 (quL ⟨nm, ty, 1⟩)) := Lib.hid (fun j u hu => (hb5.cell (p := ⟨W0.heap.size, 0 + j, none⟩) HUL.out).trans (HU.out j u hu))
    have HUL5 : Hid (W0.heap.size < W5.heap.size) := Lib.hid (Nat.lt_of_lt_of_le HUL.out hb5.size)
    refine hK.out _ _ (HSI.out _ HQ5.out HU5.out) (fun hHeld5 => ?_)
    clear hK K hb5 HW5
    try simp only [Act.put, List.getElem_toArray, List.getElem_cons_zero, List.getElem_cons_succ, List.setIfInBounds_toArray, List.set_cons_zero, List.set_cons_succ]
    refine wpAnyH_ready (rs := [5]) (by kernel_rfl) (by simp) ?_
    refine ready_one rfl rfl (fun K hK => ?_)
    go_simp
    refine (HCR _ HB5.out).out.mono ?_
    rintro e w6 ⟨v6, rfl, hr6, hb6⟩
    obtain ⟨x6, y6, rfl⟩ := own_slice (show w6.ownsRow _ _ _ v6 _ _ from hr6.1)
    have HR6 := Lib.hid hr6
    have HR7 := Lib.hid (HR5.out.below hb6)
    have HZ6 := Lib.hid (HZ5.out.below hb6)
    have HQ6 := Lib.hid (HQ5.out.below hb6)
    have HB6 := Lib.hid (chain HB5.out hb6)
    have HU6 : Hid (w6.rangeAt W0.heap.size 0 (quL ⟨nm, ty, 1⟩)) := Lib.hid (fun j u hu => (hb6.cell (p := ⟨W0.heap.size, 0 + j, none⟩) HUL5.out).trans (HU5.out j u hu))
    clear hr6 hb6 HCR
    go_wp2_with fail
    refine hK.out _ _ (HSI.out _ HQ6.out HU6.out) (fun hHeld6 => ?_)
    clear hK K
    try simp only [Act.put, List.getElem_toArray, List.getElem_cons_zero, List.getElem_cons_succ, List.setIfInBounds_toArray, List.set_cons_zero, List.set_cons_succ]
    refine wpAnyH_take (i := 6) (v := ?_) rfl (by kernel_rfl) (by kernel_rfl) (by kernel_rfl) (fun _ _ _ h => h) (Or.inl ⟨by rfl, ?_⟩) (by assumption) ?_
    rotate_left
    · (intro w hSw; go_simp; try (with_reducible rfl))
    try simp only [Act.put, List.getElem_toArray, List.getElem_cons_zero, List.getElem_cons_succ, List.setIfInBounds_toArray, List.set_cons_zero, List.set_cons_succ]
    refine wpAnyH_ready (rs := [7]) (by kernel_rfl) (by simp) ?_
    refine ready_one rfl rfl (fun K hK => ?_)
    refine wp_store_msg HZ6 rfl _ _ rfl rfl rfl rfl rfl (fun U HU HUC => ?_)
    have hs := HS0.out
    refine hK.out _ _ (HSI.out _ (by rw [HU.out]; exact HQ6.out.apart (by omega) _) (by rw [HU.out]; exact World.rangeAt_setCells_apart HU6.out _ _ _ (.inl (by omega)))) (fun hHeld7 => ?_)
    clear hK K
    try simp only [Act.put, List.getElem_toArray, List.getElem_cons_zero, List.getElem_cons_succ, List.setIfInBounds_toArray, List.set_cons_zero, List.set_cons_succ]
    refine wpAnyH_done (by kernel_rfl) ?_ _
    refine NoPanic.normal ?_
    clear hHeld hHeld5 hHeld6 hHeld7 C1 C2
    go_wp2_with fail
    exact FIN.out _ w6 U V.heap.size W5.heap.size V.heap.size _ rfl HR7.out HR6.out (by have := HUL.out; omega) (by have := HUL5.out; omega) HB6.out HU.out HUC.out
  · go_simp
    refine (HCR _ HB1.out).out.mono ?_
    rintro e w6 ⟨v6, rfl, hr6, hb6⟩
    obtain ⟨x6, y6, rfl⟩ := own_slice (show w6.ownsRow _ _ _ v6 _ _ from hr6.1)
    have HR6 := Lib.hid hr6
    have HZ6 := Lib.hid (HZ1.out.below hb6)
    have HQ6 := Lib.hid (HQ1.out.below hb6)
    have HB6 := Lib.hid (chain HB1.out hb6)
    have HU6 : Hid (w6.rangeAt W0.heap.size 0 (quL ⟨nm, ty, 1⟩)) := Lib.hid (fun j u hu => (hb6.cell (p := ⟨W0.heap.size, 0 + j, none⟩) HUL.out).trans (HU.out j u hu))
    have HUL6 : Hid (W0.heap.size < w6.heap.size) := Lib.hid (Nat.lt_of_lt_of_le HUL.out hb6.size)
    clear hr6 hb6 HCR
    go_wp2_with fail
    refine hK.out _ _ (HSI.out _ HQ6.out HU6.out) (fun hHeld6 => ?_)
    clear hK K
    try simp only [Act.put, List.getElem_toArray, List.getElem_cons_zero, List.getElem_cons_succ, List.setIfInBounds_toArray, List.set_cons_zero, List.set_cons_succ]
    refine wpAnyH_ready (rs := [3]) (by kernel_rfl) (by simp) ?_
    refine ready_one rfl rfl (fun K hK => ?_)
    refine wp_build_quM _ rfl rfl (fun W5 HW5 => ?_)
    have hb5 : Below w6.heap.size w6 W5 := by rw [HW5.out]; exact (Below.refl _ _).alloc (Nat.le_refl _) _
    have HR5 : Hid (RowQ W5 w6.heap.size (.slice (some ⟨w6.heap.size, 0, none⟩) 1 1) [⟨nm, ty, 1⟩]) := Lib.hid (by rw [HW5.out]; exact ownQ_new w6 ⟨nm, ty, 1⟩)
    have HR7 := Lib.hid (HR6.out.below hb5)
    have HZ5 := Lib.hid (HZ6.out.below hb5)
    have HQ5 := Lib.hid (HQ6.out.below hb5)
    have HB5 := Lib.hid (chain HB6.out hb5)
    have HU5 : Hid (W5.rangeAt W0.heap.size 0 (quL ⟨nm, ty, 1⟩)) := Lib.hid (fun j u hu => (hb5.cell (p := ⟨W0.heap.size, 0 + j, none⟩) HUL6.out).trans (HU6.out j u hu))
    refine hK.out _ _ (HSI.out _ HQ5.out HU5.out) (fun hHeld5 => ?_)
    clear hK K hb5 HW5
    try simp only [Act.put, List.getElem_toArray, List.getElem_cons_zero, List.getElem_cons_succ, List.setIfInBounds_toArray, List.set_cons_zero, List.set_cons_succ]
    refine wpAnyH_take (i := 6) (v := ?_) rfl (by kernel_rfl) (by kernel_rfl) (by kernel_rfl) (fun _ _ _ h => h) (Or.inl ⟨by rfl, ?_⟩) (by assumption) ?_
    rotate_left
    · (intro w hSw; go_simp; try (with_reducible rfl))
    try simp only [Act.put, List.getElem_toArray, List.getElem_cons_zero, List.getElem_cons_succ, List.setIfInBounds_toArray, List.set_cons_zero, List.set_cons_succ]
    refine wpAnyH_ready (rs := [7]) (by kernel_rfl) (by simp) ?_
    refine ready_one rfl rfl (fun K hK => ?_)
    refine wp_store_msg HZ5 rfl _ _ rfl rfl rfl rfl rfl (fun U HU HUC => ?_)
    have hs := HS0.out
    refine hK.out _ _ (HSI.out _ (by rw [HU.out]; exact HQ5.out.apart (by omega) _) (by rw [HU.out]; exact World.rangeAt_setCells_apart HU5.out _ _ _ (.inl (by omega)))) (fun hHeld7 => ?_)
    clear hK K
    try simp only [Act.put, List.getElem_toArray, List.getElem_cons_zero, List.getElem_cons_succ, List.setIfInBounds_toArray, List.set_cons_zero, List.set_cons_succ]
    refine wpAnyH_done (by kernel_rfl) ?_ _
    refine NoPanic.normal ?_
    clear hHeld hHeld5 hHeld6 hHeld7 C1 C2
    go_wp2_with fail
    exact FIN.out _ W5 U w6.heap.size V.heap.size w6.heap.size _ rfl HR5.out HR7.out (by have := HUL6.out; omega) (by have := HUL.out; omega) HB5.out HU.out HUC.out
end Go.Proofs.Ytedmkdjijhflnaa
/- The landed match: Answers. -/
namespace Go.Proofs.Ytedmkdjijhflnaa
open Go.RowKit
set_option linter.unusedVariables false
set_option maxRecDepth 20000
set_option linter.unusedSimpArgs false

end Go.Proofs.Ytedmkdjijhflnaa
/- The laws' helpers of layer 11: few, same, lives. -/
namespace Go.Proofs.Ytedmkdjijhflnaa
open Go.RowKit
set_option linter.unusedVariables false
set_option maxRecDepth 20000
set_option linter.unusedSimpArgs false

theorem some_of_recsM {w : World} {a : Option Addr} {c n : Nat} {D : List Rec} (h : RecsAt w a c D) (hn : D.length = n) (h3 : 0 < n) : ∃ g o, a = some ⟨g, o, none⟩ := by
  rcases h.2.2.2 with e | ⟨g, o, e, _⟩
  · omega
  · exact ⟨g, o, e⟩
set_option maxRecDepth 100000 in
theorem few11_any (a : Option Addr) (c : Nat) (D : List Rec) (most : Nat) (w : World) (hA : RecsAt w a c D) (hm : most ≤ 1000) :
    Calls Try.prog 6 #[.slice a D.length c, .int .i64 (most : Int)] w fun e w' => e = .returned (.slice a (D.take most).length c) ∧ w' = w := by
  have h1 := hA.1
  have h2 := hA.2.1
  have HS := fun h => some_of_recsM (n := D.length) hA rfl h
  have hl : (D.take most).length = min most D.length := List.length_take
  rw [hl]
  generalize D.length = n at *
  clear hA hl
  unfold maxLen at h2
  by_cases hn : most < n
  · obtain ⟨g, o, rfl⟩ := HS (by omega)
    have hd : decide ((most : Int) < (n : Int)) = true := decide_eq_true (by omega)
    have hd2 : decide (most < n) = true := decide_eq_true hn
    rw [show min most n = most by omega]
    go_enter Try.func6, Try.ntmps6
    go_wp2_with fail
    go_ret
    exact ⟨rfl, rfl⟩
  · have hd : decide ((most : Int) < (n : Int)) = false := decide_eq_false (by omega)
    have hd2 : decide (most < n) = false := decide_eq_false hn
    rw [show min most n = n by omega]
    go_enter Try.func6, Try.ntmps6
    go_wp2_with fail
    go_ret
    exact ⟨rfl, rfl⟩
end Go.Proofs.Ytedmkdjijhflnaa
/- Any type's own: a struct built, loaded and stored whole in a drawn region (parted from MatLives). -/
namespace Go.Proofs.Ytedmkdjijhflnaa
open Go.RowKit
set_option linter.unusedVariables false
set_option maxRecDepth 20000
set_option linter.unusedSimpArgs false

theorem yields_build {ops : Array Oper} {S : World → Prop} {op : Oper} {a : Act} {t : TypeId} {parts : Array (Nat × Operand)} {vals : List (Nat × Value)} {cs : Array Value} (hw : Region.wanted op (yielded ops a.tmps) = true) (ho : op.op = .build t parts) (hb : Try.prog.built t vals = some cs) (hv : (parts.map fun (i, x) => (i, a.eval x)).toList = vals) : YieldsIf Try.prog ops S op (.agg cs) a := by
  refine .inl ⟨hw, fun w _ => ?_⟩
  unfold execOp
  rw [← hv] at hb
  simp only [ho, Sem.run_bind, run_build w t _ cs hb, Result.andThen_ok]
  rfl
theorem yields_row {ops : Array Oper} {S : World → Prop} {op : Oper} {a : Act} {G o : Nat} {t : TypeId} {d : TypeDesc} {vs : List Value} (hS : Hid (∀ w, S w → w.rangeAt G o vs)) (hu : Try.prog.underlying t = some d) (hd : d.isRow = true) (hi : (Try.prog.info? t).map (·.size) = some vs.length) (hw : Region.wanted op (yielded ops a.tmps) = true) (x : Operand) (ho : op.op = .load t x) (hx : a.eval x = .pointer (some ⟨G, o, none⟩)) : YieldsIf Try.prog ops S op (.agg vs.toArray) a :=
  yieldsIf_load_mid hw t x ho G o hx vs _ (fun w h => hS.out w h) hu hd hi
theorem wp_store_of {op : Oper} {a : Act} {w : World} {K : Act → World → Prop} {Q : Exit → Act → World → Prop} {G : Nat} {us vs : List Value} {t : TypeId} {n : Nat} (hA : Hid (CellsAt w G us)) (hu : us.length = n) (hi : (Try.prog.info? t).map (·.size) = some n) (x y : Operand) (ho : op.op = .store t x y)
    (hx : a.eval x = .pointer (some ⟨G, 0, none⟩)) (hy : a.eval y = .agg vs.toArray) (hl : vs.length = n) (h1 : vs.all (fun u => u.oneCell') = true) (hg : op.guard = none) (h : ∀ W, Hid (W = w.setCells G 0 vs) → Hid (CellsAt W G vs) → K (a.put op.dst undef) W) : op.wp Try.prog a w K Q :=
  wp_store_mid t x y ho G 0 vs.toArray hx hy (by rw [List.size_toArray, hl, ← hu]; exact hA.out.there) (by rw [hi, List.size_toArray, hl]) (all_oneCell_toArray (List.all_eq_true.1 h1)) (h _ (Lib.hid rfl) (Lib.hid (hA.out.stored vs (hl.trans hu.symm))))
end Go.Proofs.Ytedmkdjijhflnaa
